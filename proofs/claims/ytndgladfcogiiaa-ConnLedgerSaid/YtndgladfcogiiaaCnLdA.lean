/- The ledger behind any reply, and what ConnLedger's walk lays on it. -/
import Derived.Test.YtndgladfcogiiaaCnAll

/- Contracts: is it the token that a Release gives back; the first such token. -/
namespace Go.Proofs.Ytndgladfcogiiaa
open Go.RowKit
set_option maxRecDepth 100000
set_option linter.unusedVariables false

/-- Is it the token that is given back? -/
def isV (t : TkV) (x : ClV) : Bool := decide (t.s = x.s) && (decide (t.p = x.p) && decide (t.ks = x.ks))
abbrev isW1 (w : World) (t : TkR) : World := w.alloc (.cells #[.int .i64 t.p, .slice t.A t.ks.length t.c, .int .i64 t.s] 24)
abbrev isW (w : World) (t : TkR) (x : ClR) : World := clW (isW1 w t) x.o x.p x.A x.ks.length x.c x.s
theorem isBl (w : World) (t : TkR) (x : ClR) : Below w.heap.size w (isW w t x) :=
  ((Below.refl _ _).alloc (Nat.le_refl _) _).trans ((clBl (isW1 w t) x.o x.p x.A x.ks.length x.c x.s).mono (by simp))
set_option maxHeartbeats 1600000 in
theorem isof_any (w : World) (t : TkR) (x : ClR) (ht : Arg w w.heap.size t.A t.ks.length t.c t.ks) (hx : Arg w w.heap.size x.A x.ks.length x.c x.ks) (h0 : 0 < t.ks.length) (h1 : 0 < x.ks.length) :
    Calls Try.prog 132 #[.agg #[.int .i64 t.p, .slice t.A t.ks.length t.c, .int .i64 t.s], ClA x.o x.p x.A x.ks.length x.c x.s] w fun e w' => e = .returned (.bool (isV t.v x.v)) ∧ Below w.heap.size w w' := by
  have kt := (BlkL.new w t.cells 24).below (clBl (isW1 w t) x.o x.p x.A x.ks.length x.c x.s)
  have kx := clK (isW1 w t) x.o x.p x.A x.ks.length x.c x.s
  have hs1 : (isW1 w t).heap.size = w.heap.size + 1 := by simp
  rw [hs1] at kx
  have HEQ := Lib.hid (equal_any (isW w t x) _ _ t.A x.A t.ks.length t.c x.ks.length x.c t.ks x.ks (decide (t.ks = x.ks)) rfl (ht.below (isBl w t x)) (hx.below (isBl w t x)) h0 h1)
  have HB := Lib.hid (isBl w t x)
  have a0 := kt.cell 0 _ rfl
  have a1 := kt.cell 1 _ rfl
  have a2 := kt.cell 2 _ rfl
  have b1 := kx.cell 1 _ rfl
  have b2 := kx.cell 2 _ rfl
  have b3 := kx.cell 3 _ rfl
  have l1 := kt.lt
  have l2 := kx.lt
  obtain ⟨tp, ts, tA, tc, tk⟩ := t
  obtain ⟨xo, xp, xs, xA, xc, xk⟩ := x
  dsimp only at *
  unfold isV
  dsimp only
  clear ht hx kt kx hs1
  by_cases e : ts = xs
  · have g1 : (ts == xs) = true := by simpa using e
    by_cases e2 : tp = xp
    · have g2 : (tp == xp) = true := by simpa using e2
      have HE := Lib.hid (And.intro e e2)
      generalize hr : decide (tk = xk) = r at *
      clear e e2 hr
      go_enter Try.func132, Try.ntmps132
      go_wp2_with fail
      with_reducible refine (HEQ.out).mono ?_
      rintro e w1 ⟨rfl, hw⟩
      subst hw
      go_wp2
      go_ret
      exact ⟨by rw [HE.out.1, HE.out.2]; simp, HB.out⟩
    · have g2 : (tp == xp) = false := by simpa using e2
      have HE := Lib.hid (And.intro e e2)
      clear e e2 HEQ
      go_enter Try.func132, Try.ntmps132
      go_wp2
      go_ret
      exact ⟨by simp [HE.out.2], HB.out⟩
  · have g1 : (ts == xs) = false := by simpa using e
    have HE := Lib.hid e
    clear e HEQ
    go_enter Try.func132, Try.ntmps132
    go_wp2
    go_ret
    exact ⟨by simp [HE.out], HB.out⟩
/-- The closure. -/
theorem clos_any (w : World) (qb : Nat) (t : TkR) (x : ClR) (hq : BlkL w qb x.cells) (ht : Arg w w.heap.size t.A t.ks.length t.c t.ks) (hx : Arg w w.heap.size x.A x.ks.length x.c x.ks) (h0 : 0 < t.ks.length) (h1 : 0 < x.ks.length) :
    Calls Try.prog 131 #[.agg #[.int .i64 t.p, .slice t.A t.ks.length t.c, .int .i64 t.s], .pointer (some ⟨qb, 0, none⟩)] w fun e w' => e = .returned (.bool (isV t.v x.v)) ∧ Below w.heap.size w w' := by
  have hb1 : Below w.heap.size w (isW1 w t) := (Below.refl _ _).alloc (Nat.le_refl _) _
  have HI := Lib.hid (isof_any (isW1 w t) t x ((ht.below hb1).more hb1.size) ((hx.below hb1).more hb1.size) h0 h1)
  have kt := BlkL.new w t.cells 24
  have kq := hq.below hb1
  have HB := Lib.hid hb1
  have a0 := kt.cell 0 _ rfl
  have a1 := kt.cell 1 _ rfl
  have a2 := kt.cell 2 _ rfl
  have b0 := kq.cell 0 _ rfl
  have b1 := kq.cell 1 _ rfl
  have b2 := kq.cell 2 _ rfl
  have b3 := kq.cell 3 _ rfl
  have l1 := kt.lt
  have l2 := kq.lt
  clear kt kq hq ht hx h0 h1 hb1
  go_enter Try.func131, Try.ntmps131
  go_wp2_with fail
  with_reducible refine (HI.out).mono ?_
  rintro e w1 ⟨rfl, hb⟩
  have HB1 := Lib.hid (HB.out.trans (hb.mono (by simp)))
  clear hb
  go_wp2
  go_ret
  exact ⟨rfl, HB1.out⟩
end Go.Proofs.Ytndgladfcogiiaa


/- Contracts: the first token that is given back. -/
namespace Go.Proofs.Ytndgladfcogiiaa
open Go.RowKit
set_option maxRecDepth 100000
set_option linter.unusedVariables false

/-- A ledger, and a Release that is looked for in it. -/
structure LdM (w : World) (B : Nat) (A : Option Addr) (n c : Nat) (L : List TkR) (x : ClR) (qb : Nat) : Prop where
  own : OwnS w B 3 A n c (FTk L)
  kl : ∀ t ∈ L, KeyOk w (bkV A) t.A t.c t.ks
  h0 : ∀ t ∈ L, 0 < t.ks.length
  q : BlkL w qb x.cells
  qn : qb ∉ bkV A
  xk : KeyOk w (bkV A) x.A x.c x.ks
  x0 : 0 < x.ks.length
section
variable {w w' : World} {B n c qb : Nat} {A : Option Addr} {L : List TkR} {x : ClR}
theorem LdM.len (h : LdM w B A n c L x qb) : L.length = n := by have := h.own.len; rw [FTk_len] at this; omega
theorem LdM.below (h : LdM w B A n c L x qb) (hb : Below w.heap.size w w') : LdM w' B A n c L x qb :=
  ⟨h.own.below hb, fun t ht => (h.kl t ht).step (Off.of_below (S := []) hb) (by simp) (fun y hy => .inl hy), h.h0, h.q.below hb, h.qn, h.xk.step (Off.of_below (S := []) hb) (by simp) (fun y hy => .inl hy), h.x0⟩
theorem LdM.clos (h : LdM w B A n c L x qb) (t : TkR) (ht : t ∈ L) :
    Calls Try.prog 131 #[.agg #[.int .i64 t.p, .slice t.A t.ks.length t.c, .int .i64 t.s], .pointer (some ⟨qb, 0, none⟩)] w fun e w' => e = .returned (.bool (isV t.v x.v)) ∧ Below w.heap.size w w' :=
  clos_any w qb t x h.q (h.kl t ht).arg h.xk.arg (h.h0 t ht) h.x0
end
abbrev closV (qb : Nat) : Value := .func (.func 131) #[] #[.pointer (some ⟨qb, 0, none⟩)]
/-- How the search ends. -/
def IdxE (w : World) (L : List TkR) (x : ClR) (e : Ending) (w' : World) : Prop :=
  Below w.heap.size w w' ∧ ((e = .returned (.int .i64 (-1)) ∧ ∀ j, j < L.length → isV (L.getD j noTk).v x.v = false) ∨
    ∃ k, k < L.length ∧ e = .returned (.int .i64 (k : Int)) ∧ isV (L.getD k noTk).v x.v = true ∧ ∀ j, j < k → isV (L.getD j noTk).v x.v = false)
set_option maxHeartbeats 1600000 in
theorem idx_any (w : World) (B : Nat) (A : Option Addr) (n c : Nat) (L : List TkR) (x : ClR) (qb : Nat) (h : LdM w B A n c L x qb) (hn : n ≤ 1000000) :
    Calls Try.prog 139 #[.slice A n c, closV qb] w (IdxE w L x) := by
  have hl := h.len
  have HL := Lib.hid hl
  have H := Lib.hid h
  clear h hl
  go_enter Try.func139, Try.ntmps139
  go_wp2
  go_loopw [8] (fun iv wr => ∃ i : Nat, i ≤ n ∧ iv = .int .i64 (i : Int) ∧ Below w.heap.size w wr ∧ ∀ j, j < i → isV (L.getD j noTk).v x.v = false) (fun iv _ => n - (intOf iv).toNat)
  case atStart => exact ⟨0, Nat.zero_le _, rfl, Below.refl _ _, fun j hj => absurd hj (Nat.not_lt_zero _)⟩
  case round =>
    obtain ⟨i, hi, rfl, hb, hno⟩ := hrel
    have HM := Lib.hid (H.out.below hb)
    have HB := Lib.hid hb
    have HN := Lib.hid hno
    have hz := hb.size
    clear hb hno
    rcases Nat.lt_or_ge i n with hlt | hge
    · have hmem : L.getD i noTk ∈ L := tkD_mem (by have := HL.out; omega)
      obtain ⟨b, off, rfl, _, _, hc, _⟩ := HM.out.own.cell (by omega)
      have hf := fun j (hj : j < 3) v (hv : (L.getD i noTk).cells[j]? = some v) => hc (i * 3 + j) v (by rw [FTk_at L i j (by have := HL.out; omega) hj]; exact hv)
      have HC := Lib.hid (HM.out.clos _ hmem)
      obtain ⟨t, htx⟩ : ∃ t, L.getD i noTk = t := ⟨_, rfl⟩
      have HT := Lib.hid htx
      rw [htx] at HC hf
      obtain ⟨r, hr⟩ : ∃ r, isV t.v x.v = r := ⟨_, rfl⟩
      rw [hr] at HC
      have HR := Lib.hid hr
      have e0 : wr.cell? ⟨b, off + i * 3, none⟩ = some (.int .i64 t.p) := hf 0 (by omega) _ rfl
      have e1 : wr.cell? ⟨b, off + i * 3 + 1, none⟩ = some (.slice t.A t.ks.length t.c) := hf 1 (by omega) _ rfl
      have e2 : wr.cell? ⟨b, off + i * 3 + 2, none⟩ = some (.int .i64 t.s) := hf 2 (by omega) _ rfl
      have i0 : (0 : Int) ≤ (i : Int) := by omega
      have i1 : (i : Int) < (n : Int) := by omega
      clear hmem hc hf htx hr
      go_wp2_with fail
      with_reducible refine (HC.out).mono ?_
      rintro e w1 ⟨rfl, hb1⟩
      have HB1 := Lib.hid (HB.out.trans (hb1.mono hz))
      clear hb1 e0 e1 e2
      cases r
      · go_wp2
        go_roundw
        case rel => 
          refine ⟨i + 1, by omega, by push_cast; rfl, HB1.out, fun j hj => ?_⟩
          rcases Nat.lt_or_ge j i with h1 | h1
          · exact HN.out j h1
          · obtain rfl : j = i := by omega
            rw [HT.out]; exact HR.out
        case measure => simp [intOf]; omega
      · go_wp2
        go_ret
        exact ⟨HB1.out, .inr ⟨i, by have := HL.out; omega, rfl, by rw [HT.out]; exact HR.out, HN.out⟩⟩
    · obtain rfl : i = n := by omega
      go_wp2
      go_ret
      exact ⟨HB.out, .inl ⟨rfl, fun j hj => HN.out j (by have := HL.out; omega)⟩⟩
end Go.Proofs.Ytndgladfcogiiaa


/- What a DeleteFunc does to a list of tokens, and its slices and its clear. -/
namespace Go.Proofs.Ytndgladfcogiiaa
open Go.RowKit
set_option maxRecDepth 100000
set_option linter.unusedVariables false

theorem elemL : Try.prog.underlying 154 = some (.slice (Try.prog.elem 154)) := by kernel_rfl
theorem sizeL (w : World) : (sizeOf (Try.prog.elem 154)).run Try.prog w = .ok 3 w := by kernel_rfl
theorem run_fromT (w : World) (b off n c k : Nat) (hk : k < n) (hc : n ≤ c) : (Instr.slice 154 (.slice (some ⟨b, off, none⟩) n c) (some (.int .i64 (k : Int))) none none).run Try.prog w = .ok (.slice (some ⟨b, off + k * 3, none⟩) (n - k) (c - k)) w := by
  rw [run_slice_l (ht := elemL) (h0 := by omega) (h1 := by omega), sizeL]
  have e : ¬ c = k := by omega
  simp [Result.andThen, sliced, add_litV, e]
theorem run_toT (w : World) (b off n c k : Nat) (hk : k < n) (hc : n ≤ c) : (Instr.slice 154 (.slice (some ⟨b, off, none⟩) n c) none (some (.int .i64 (k : Int))) none).run Try.prog w = .ok (.slice (some ⟨b, off, none⟩) k c) w := by
  rw [run_slice_h (ht := elemL) (h0 := by omega) (h2 := by omega), sizeL]
  simp [Result.andThen, sliced, add_litV]
theorem zeroT (w : World) : (zeroValue 24).run Try.prog w = .ok (.agg #[.int .i64 0, .slice none 0 0, .int .i64 0]) w := by kernel_rfl
theorem run_clearT (w : World) (b o n c : Nat) (hn : 0 < n) (hc : ∀ j, j < n * 3 → (w.cell? ⟨b, o + j, none⟩).isSome = true) (hf : ∀ j, j < n * 3 → w.frozen? ⟨b, o + j, none⟩ = false) :
    ∃ zs : List Value, zs.length = n * 3 ∧ ∀ ty, (Builtin.clear_ #[154] ty #[.slice (some ⟨b, o, none⟩) n c]).run Try.prog w = .ok (.tuple #[]) (w.setCells b o zs) := by
  have hzl : (Builtin.zeroCells #[.int .i64 0, .slice none 0 0, .int .i64 0] n).toList.length = n * 3 := by simp [Builtin.zeroCells]
  have hz1 : ∀ v ∈ (Builtin.zeroCells #[.int .i64 0, .slice none 0 0, .int .i64 0] n).toList, v.oneCell' = true := by
    intro v hv
    simp only [Builtin.zeroCells, Array.toList_map, List.mem_map] at hv
    obtain ⟨i, _, rfl⟩ := hv
    have : i % 3 = 0 ∨ i % 3 = 1 ∨ i % 3 = 2 := by omega
    rcases this with h | h | h <;> simp [h, Value.oneCell']
  have hst := run_storeCells_cells (P := Try.prog) b o (Builtin.zeroCells #[.int .i64 0, .slice none 0 0, .int .i64 0] n).toList 0 w (by rw [hzl]; simpa using hc) (by rw [hzl]; simpa using hf) hz1
  simp only [Nat.add_zero] at hst
  refine ⟨_, hzl, fun ty => ?_⟩
  obtain ⟨m, rfl⟩ : ∃ m, n = m + 1 := ⟨n - 1, by omega⟩
  have hcc : (Value.agg #[.int .i64 0, .slice none 0 0, .int .i64 0]).cells = #[.int .i64 0, .slice none 0 0, .int .i64 0] := rfl
  simp [Builtin.clear_, run_underlying Try.underlying154, hcc, hst]
/-- What stands ahead of what is cleared. -/
theorem OwnS.cut {w : World} {B b off n c m : Nat} {vs : List Value} (h : OwnS w B 3 (some ⟨b, off, none⟩) n c vs) (hm : m ≤ n) (zs : List Value) (hz : zs.length = (n - m) * 3) : OwnS (w.setCells b (off + m * 3) zs) B 3 (some ⟨b, off, none⟩) m c (vs.take (m * 3)) := by
  obtain ⟨_, b2, b3, b4, b5⟩ := h.at_ _ rfl
  simp only at b2 b3 b4 b5
  have hl := h.len
  have hle := h.le
  refine ⟨by rw [List.length_take, hl]; omega, by omega, h.cap, (fun e => by cases e), fun a ha => ?_⟩
  injection ha with ha
  subst ha
  refine ⟨rfl, b2, Nat.lt_of_lt_of_le b3 ((Off.refl [b] w).setCells (by simp) zs (off + m * 3)).size, fun j hj => ?_, fun j v hj => ?_⟩
  · show (World.cell? _ ⟨b, off + j, none⟩).isSome = true ∧ World.frozen? _ ⟨b, off + j, none⟩ = false
    refine ⟨?_, by rw [World.frozen?_setCells]; exact (b4 j hj).2⟩
    rcases Nat.lt_or_ge j (m * 3) with g | g
    · rw [World.cell?_setCells_out _ _ _ _ _ (fun _ _ => .inl (by simp; omega))]; exact (b4 j hj).1
    · rcases Nat.lt_or_ge j (n * 3) with g' | g'
      · have := World.cell?_setCells_in b zs (off + m * 3) w (fun i hk => by
          have := (b4 (m * 3 + i) (by omega)).1
          rwa [show off + m * 3 + i = off + (m * 3 + i) by omega]) (j - m * 3) (by omega)
        rw [show off + m * 3 + (j - m * 3) = off + j by omega] at this
        rw [this]; rfl
      · rw [World.cell?_setCells_out _ _ _ _ _ (fun _ _ => .inr (by simp; omega))]; exact (b4 j hj).1
  · show World.cell? _ ⟨b, off + j, none⟩ = _
    have hj' : j < m * 3 := by
      have := (List.getElem?_eq_some_iff.1 hj).1
      rw [List.length_take] at this; omega
    rw [World.cell?_setCells_out _ _ _ _ _ (fun _ _ => .inl (by simp; omega))]
    rw [List.getElem?_take, if_pos hj'] at hj
    exact b5 j v hj
theorem FTk_take (l : List TkR) (m : Nat) : (FTk l).take (m * 3) = FTk (l.take m) := by
  induction l generalizing m with
  | nil => simp [FTk]
  | cons a l ih =>
    cases m with
    | zero => simp [FTk]
    | succ m =>
      rw [FTk_cons, List.take_succ_cons, FTk_cons, ← ih m, List.take_append, TkR.len]
      rw [List.take_of_length_le (by rw [TkR.len]; omega)]
      congr 2
      omega
theorem FTk_put (l : List TkR) (i : Nat) (h : i < l.length) (t : TkR) : (((FTk l).set (i * 3) (.int .i64 t.p)).set (i * 3 + 1) (.slice t.A t.ks.length t.c)).set (i * 3 + 2) (.int .i64 t.s) = FTk (l.set i t) := by
  induction l generalizing i with
  | nil => simp at h
  | cons a l ih =>
    cases i with
    | zero =>
      rw [List.set_cons_zero, FTk_cons, FTk_cons]
      simp [TkR.cells]
    | succ i =>
      have := ih i (by simpa using h)
      rw [List.set_cons_succ, FTk_cons, FTk_cons, ← this]
      rw [List.set_append_right _ _ (by rw [TkR.len]; omega), List.set_append_right _ _ (by rw [TkR.len]; omega), List.set_append_right _ _ (by rw [TkR.len]; omega)]
      have q0 : (i + 1) * 3 - a.cells.length = i * 3 := by rw [TkR.len]; omega
      have q1 : (i + 1) * 3 + 1 - a.cells.length = i * 3 + 1 := by rw [TkR.len]; omega
      have q2 : (i + 1) * 3 + 2 - a.cells.length = i * 3 + 2 := by rw [TkR.len]; omega
      rw [q0, q1, q2]
abbrev putW (w : World) (b o : Nat) (t : TkR) : World := ((w.setCell ⟨b, o, none⟩ (.int .i64 t.p)).setCell ⟨b, o + 1, none⟩ (.slice t.A t.ks.length t.c)).setCell ⟨b, o + 2, none⟩ (.int .i64 t.s)
theorem putOff (w : World) (b o : Nat) (t : TkR) : Off [b] w (putW w b o t) := (((Off.refl _ _).setCell (p := ⟨b, o, none⟩) (by simp) _).setCell (p := ⟨b, o + 1, none⟩) (by simp) _).setCell (p := ⟨b, o + 2, none⟩) (by simp) _
theorem LdM.put {w : World} {B b off n c qb : Nat} {L : List TkR} {x : ClR} (h : LdM w B (some ⟨b, off, none⟩) n c L x qb) (i : Nat) (hi : i < n) (t : TkR) (ht : t ∈ L) : LdM (putW w b (off + i * 3) t) B (some ⟨b, off, none⟩) n c (L.set i t) x qb := by
  have hl := h.len
  have ko : ∀ {A : Option Addr} {c : Nat} {ks : List Nat}, KeyOk w (bkV (some ⟨b, off, none⟩)) A c ks → KeyOk (putW w b (off + i * 3) t) (bkV (some ⟨b, off, none⟩)) A c ks := fun k => k.step (putOff w b (off + i * 3) t) (fun y hy => .inl (by simpa [bkV] using hy)) (fun y hy => .inl hy)
  have hm : ∀ u ∈ L.set i t, u ∈ L := fun u hu => (List.mem_or_eq_of_mem_set hu).elim id (fun e => e ▸ ht)
  refine ⟨?_, fun u hu => ko (h.kl u (hm u hu)), fun u hu => h.h0 u (hm u hu), h.q.off (putOff _ _ _ _) (by have := h.qn; simpa [bkV] using this), h.qn, ko h.xk, h.x0⟩
  rw [← FTk_put L i (by omega) t]
  exact ((h.own.set (i * 3) _ (by omega)).set (i * 3 + 1) _ (by omega)).set (i * 3 + 2) _ (by omega)
/-- How far a DeleteFunc has come. -/
structure DelI (L L2 : List TkR) (f : TkR → Bool) (k j : Nat) : Prop where
  kj : k < j
  jn : j ≤ L.length
  len : L2.length = L.length
  pre : L2.take k = (L.take j).filter (fun t => !f t)
  suf : ∀ i, j ≤ i → i < L.length → L2.getD i noTk = L.getD i noTk
  mem : ∀ t ∈ L2, t ∈ L
section
variable {L L2 : List TkR} {f : TkR → Bool} {k j : Nat}
theorem take_snocT (l : List TkR) (k : Nat) (h : k < l.length) : l.take (k + 1) = l.take k ++ [l.getD k noTk] := by
  rw [List.take_add_one, List.getD_eq_getElem?_getD, List.getElem?_eq_getElem h]; rfl
theorem DelI.start (h : k < L.length) (ht : f (L.getD k noTk) = true) (hb : ∀ j, j < k → f (L.getD j noTk) = false) : DelI L L f k (k + 1) := by
  refine ⟨by omega, by omega, rfl, ?_, fun _ _ _ => rfl, fun _ h => h⟩
  rw [take_snocT L k h, List.filter_append]
  simp only [List.filter_cons, ht, Bool.not_true, Bool.false_eq_true, if_false, List.filter_nil, List.append_nil]
  refine (List.filter_eq_self.2 fun t ht => ?_).symm
  obtain ⟨i, hi, rfl⟩ := List.getElem_of_mem ht
  have hi' : i < k := by simp at hi; omega
  have := hb i hi'
  rw [List.getD_eq_getElem?_getD, List.getElem?_eq_getElem (by omega)] at this
  simp only [List.getElem_take]
  simpa using this
theorem DelI.keep (h : DelI L L2 f k j) (hj : j < L.length) (hf : f (L.getD j noTk) = false) : DelI L (L2.set k (L.getD j noTk)) f (k + 1) (j + 1) := by
  have hk := h.kj
  have hl := h.len
  refine ⟨by omega, by omega, by rw [List.length_set]; exact hl, ?_, fun i h1 h2 => ?_, fun t ht => (List.mem_or_eq_of_mem_set ht).elim (h.mem t) (fun e => e ▸ tkD_mem hj)⟩
  · rw [take_snocT _ k (by rw [List.length_set]; omega), take_snocT L j hj, List.filter_append, ← h.pre]
    simp only [List.filter_cons, hf, Bool.not_false, if_true, List.filter_nil]
    rw [List.take_set_of_le (Nat.le_refl k)]
    congr 2
    rw [List.getD_eq_getElem?_getD, List.getElem?_set_self (by omega)]; rfl
  · rw [← h.suf i (by omega) h2]
    simp only [List.getD_eq_getElem?_getD]
    rw [List.getElem?_set_ne (by omega)]
theorem DelI.skip (h : DelI L L2 f k j) (hj : j < L.length) (hf : f (L.getD j noTk) = true) : DelI L L2 f k (j + 1) := by
  have hk := h.kj
  refine ⟨by omega, by omega, h.len, ?_, fun i h1 h2 => h.suf i (by omega) h2, h.mem⟩
  rw [take_snocT L j hj, List.filter_append, ← h.pre]
  simp only [List.filter_cons, hf, Bool.not_true, Bool.false_eq_true, if_false, List.filter_nil, List.append_nil]
end
end Go.Proofs.Ytndgladfcogiiaa


/- Contract: DeleteFunc over the ledger. -/
namespace Go.Proofs.Ytndgladfcogiiaa
open Go.RowKit
set_option maxRecDepth 100000
set_option linter.unusedVariables false

/-- How DeleteFunc ends. -/
def DelE (w : World) (B : Nat) (A : Option Addr) (c : Nat) (L : List TkR) (x : ClR) (e : Ending) (w' : World) : Prop :=
  ∃ L', L' = L.filter (fun t => !isV t.v x.v) ∧ e = .returned (.slice A L'.length c) ∧ OwnS w' B 3 A L'.length c (FTk L') ∧ Off (bkV A) w w'
/-- The loop that moves what is kept. -/
def DelR (w : World) (B b off n c : Nat) (L : List TkR) (x : ClR) (qb : Nat) (iv jv : Value) (wr : World) : Prop :=
  ∃ (k j : Nat) (L2 : List TkR), iv = .int .i64 (k : Int) ∧ jv = .int .i64 (j : Int) ∧ DelI L L2 (fun t => isV t.v x.v) k j ∧ LdM wr B (some ⟨b, off, none⟩) n c L2 x qb ∧ Off [b] w wr
set_option maxHeartbeats 3200000 in
theorem del_any (w : World) (B : Nat) (A : Option Addr) (n c : Nat) (L : List TkR) (x : ClR) (qb : Nat) (h : LdM w B A n c L x qb) (hn : n ≤ 1000000) :
    Calls Try.prog 130 #[.slice A n c, closV qb] w (DelE w B A c L x) := by
  have HI := Lib.hid (idx_any w B A n c L x qb h hn)
  have hl := h.len
  have HL := Lib.hid hl
  have H := Lib.hid h
  clear h hl
  go_enter Try.func130, Try.ntmps130
  go_wp2_with fail
  with_reducible refine (HI.out).mono ?_
  rintro e w1 ⟨hb, hcase⟩
  rcases hcase with ⟨rfl, hno⟩ | ⟨k0, hk0, rfl, hyes, hbf⟩
  · have HM := Lib.hid (H.out.below hb)
    have HB := Lib.hid hb
    have HN := Lib.hid hno
    clear hb hno
    go_wp2
    go_ret
    have hall : L.filter (fun t => !isV t.v x.v) = L := List.filter_eq_self.2 fun t ht => by
      obtain ⟨i, hi, rfl⟩ := List.getElem_of_mem ht
      have := HN.out i hi
      rw [List.getD_eq_getElem?_getD, List.getElem?_eq_getElem hi] at this
      simpa using this
    refine ⟨L, hall.symm, by rw [HL.out]; rfl, by rw [HL.out]; exact HM.out.own, Off.of_below HB.out⟩
  · have HM := Lib.hid (H.out.below hb)
    obtain ⟨b, off, rfl, _, _, _, _⟩ := HM.out.own.cell (by have := HL.out; omega)
    have HST : Hid (DelR w B b off n c L x qb (.int .i64 (k0 : Int)) (.int .i64 ((k0 + 1 : Nat) : Int)) w1) := Lib.hid ⟨k0, k0 + 1, L, rfl, rfl, DelI.start (f := fun t => isV t.v x.v) hk0 hyes hbf, HM.out, (Off.of_below (S := [b]) hb)⟩
    have kn : k0 < n := by have := HL.out; omega
    have d1 : ((k0 : Int) == -1) = false := beq_eq_false_iff_ne.2 (by omega)
    have hcap := H.out.own.cap
    have hle := H.out.own.le
    unfold maxLen at hcap
    clear hb hyes hbf hk0 HM HI
    go_wp2
    go_loopw [5, 6] (fun iv jv wr => DelR w B b off n c L x qb iv jv wr) (fun iv jv _ => n - (intOf jv).toNat)
    case atStart => have := HST.out; simpa using this
    case round =>
      obtain ⟨k, j, L2, rfl, rfl, hd, hm, hf⟩ := hrel
      have HD := Lib.hid hd
      have HM := Lib.hid hm
      have HF := Lib.hid hf
      have hkj := hd.kj
      have hjn : j ≤ n := by have := hd.jn; have := HL.out; omega
      have hl2 : L2.length = n := hm.len
      have HL2 := Lib.hid hl2
      have hcc := fun i (hi : i < n) q (hq : q < 3) v (hv : (L2.getD i noTk).cells[q]? = some v) => show wr.cell? ⟨b, off + (i * 3 + q), none⟩ = some v from by
        obtain ⟨b', off', e, _, _, hc, _⟩ := hm.own.cell (by omega)
        cases e
        exact hc (i * 3 + q) v (by rw [FTk_at L2 i q (by omega) hq]; exact hv)
      have hfz := fun i (hi : i < n) q (hq : q < 3) => show wr.frozen? ⟨b, off + (i * 3 + q), none⟩ = false from by
        obtain ⟨b', off', e, _, _, _, hz⟩ := hm.own.cell (by omega)
        cases e
        exact hz (i * 3 + q) (by omega)
      have lb : b < wr.heap.size := (hm.own.lt b (by simp [bkV])).2
      clear hd hm hf hl2
      rcases Nat.lt_or_ge j n with hlt | hge
      · have hmem : L2.getD j noTk ∈ L2 := tkD_mem (by have := HL2.out; omega)
        have hsuf := HD.out.suf j (Nat.le_refl _) (by have := HL.out; omega)
        obtain ⟨t, htx⟩ : ∃ t, L2.getD j noTk = t := ⟨_, rfl⟩
        obtain ⟨u, hux⟩ : ∃ u, L2.getD k noTk = u := ⟨_, rfl⟩
        rw [htx] at hmem hsuf
        have cj := hcc j hlt
        have ck := hcc k (by omega)
        have fk := hfz k (by omega)
        rw [htx] at cj
        rw [hux] at ck
        have a0 : wr.cell? ⟨b, off + j * 3, none⟩ = some (.int .i64 t.p) := cj 0 (by omega) _ rfl
        have a1 : wr.cell? ⟨b, off + j * 3 + 1, none⟩ = some (.slice t.A t.ks.length t.c) := cj 1 (by omega) _ rfl
        have a2 : wr.cell? ⟨b, off + j * 3 + 2, none⟩ = some (.int .i64 t.s) := cj 2 (by omega) _ rfl
        have b2 : Below wr.heap.size wr (isW1 wr t) := (Below.refl _ _).alloc (Nat.le_refl _) _
        have HMA := Lib.hid (HM.out.below b2)
        have HC := Lib.hid (HMA.out.clos t hmem)
        have HBA := Lib.hid b2
        have kt := BlkL.new wr t.cells 24
        have HKT := Lib.hid kt
        have c0 := kt.cell 0 _ rfl
        have c1 := kt.cell 1 _ rfl
        have c2 := kt.cell 2 _ rfl
        have lt := kt.lt
        obtain ⟨r, hr⟩ : ∃ r, isV t.v x.v = r := ⟨_, rfl⟩
        rw [hr] at HC
        have HR := Lib.hid hr
        have HT := Lib.hid (And.intro hmem (And.intro hsuf htx))
        have HCK := Lib.hid (And.intro ck fk)
        have j0 : (0 : Int) ≤ (j : Int) := by omega
        have j1 : (j : Int) < (n : Int) := by omega
        have k00 : (0 : Int) ≤ (k : Int) := by omega
        have k01 : (k : Int) < (n : Int) := by omega
        clear hmem hsuf htx hux cj ck fk kt hr b2 hcc hfz
        go_wp2_with fail
        with_reducible refine (HC.out).mono ?_
        rintro e w2 ⟨rfl, hb2⟩
        have hsz : (isW1 wr t).heap.size = wr.heap.size + 1 := by simp
        have hz2 := hb2.size
        have HMB := Lib.hid (HMA.out.below hb2)
        have HFB := Lib.hid (HF.out.trans (Off.of_below (S := [b]) (HBA.out.trans (hb2.mono (by rw [hsz]; omega)))))
        have HKB := HKT.out.below hb2
        have g0 := HKB.cell 0 _ rfl
        have g1 := HKB.cell 1 _ rfl
        have g2 := HKB.cell 2 _ rfl
        have lg := HKB.lt
        have lb2 : b < w2.heap.size := by omega
        have f0 : w2.frozen? ⟨b, off + k * 3, none⟩ = false := by
          obtain ⟨b', off', e, _, _, _, hz⟩ := HMB.out.own.cell (by omega)
          cases e
          exact hz (k * 3) (by omega)
        have f1 : w2.frozen? ⟨b, off + k * 3 + 1, none⟩ = false := by
          obtain ⟨b', off', e, _, _, _, hz⟩ := HMB.out.own.cell (by omega)
          cases e
          exact hz (k * 3 + 1) (by omega)
        have f2 : w2.frozen? ⟨b, off + k * 3 + 2, none⟩ = false := by
          obtain ⟨b', off', e, _, _, _, hz⟩ := HMB.out.own.cell (by omega)
          cases e
          exact hz (k * 3 + 2) (by omega)
        have hcw := fun q (hq : q < 3) v (hv : (L2.getD k noTk).cells[q]? = some v) => show w2.cell? ⟨b, off + (k * 3 + q), none⟩ = some v from by
          obtain ⟨b', off', e, _, _, hc, _⟩ := HMB.out.own.cell (by omega)
          cases e
          exact hc (k * 3 + q) v (by rw [FTk_at L2 k q (by have := HL2.out; omega) hq]; exact hv)
        generalize L2.getD k noTk = u2 at hcw
        have q0 : w2.cell? ⟨b, off + k * 3, none⟩ = some (.int .i64 u2.p) := hcw 0 (by omega) _ rfl
        have q1 : w2.cell? ⟨b, off + k * 3 + 1, none⟩ = some (.slice u2.A u2.ks.length u2.c) := hcw 1 (by omega) _ rfl
        have q2 : w2.cell? ⟨b, off + k * 3 + 2, none⟩ = some (.int .i64 u2.s) := hcw 2 (by omega) _ rfl
        clear hb2 HKB a0 a1 a2 c0 c1 c2 HC hsz hz2 hcw
        cases r
        · have HREL : Hid (DelR w B b off n c L x qb (.int .i64 ((k + 1 : Nat) : Int)) (.int .i64 ((j + 1 : Nat) : Int)) (putW w2 b (off + k * 3) t)) := Lib.hid ⟨k + 1, j + 1, L2.set k t, rfl, rfl, by
              have := HD.out.keep (by have := HL.out; omega) (by rw [← HT.out.2.1]; exact HR.out)
              rw [← HT.out.2.1] at this
              exact this, HMB.out.put k (by omega) t HT.out.1, HFB.out.trans (putOff _ _ _ _)⟩
          go_wp2
          go_roundw
          case rel => have := HREL.out; simpa using this
          case measure => simp [intOf]; omega
        · have HREL : Hid (DelR w B b off n c L x qb (.int .i64 (k : Int)) (.int .i64 ((j + 1 : Nat) : Int)) w2) := Lib.hid ⟨k, j + 1, L2, rfl, rfl, HD.out.skip (by have := HL.out; omega) (by rw [← HT.out.2.1]; exact HR.out), HMB.out, HFB.out⟩
          go_wp2
          go_roundw
          case rel => have := HREL.out; simpa using this
          case measure => simp [intOf]; omega
      · obtain rfl : j = n := by omega
        obtain ⟨zs, hzl, hcl⟩ := run_clearT wr b (off + k * 3) (j - k) (c - k) (by omega) (fun i hi => by
            have := (HM.out.own.at_ _ rfl).2.2.2.1 (k * 3 + i) (by omega)
            rw [show off + k * 3 + i = off + (k * 3 + i) by omega]; exact this.1) (fun i hi => by
            have := (HM.out.own.at_ _ rfl).2.2.2.1 (k * 3 + i) (by omega)
            rw [show off + k * 3 + i = off + (k * 3 + i) by omega]; exact this.2)
        have hsl1 := fun w' => run_fromT w' b off j c k (by omega) (by omega)
        have hsl2 := fun w' => run_toT w' b off j c k (by omega) (by omega)
        have HZ := Lib.hid hzl
        clear hcc hfz hzl
        go_wp2
        go_ret
        have hp := HD.out.pre
        rw [show L.take j = L from List.take_of_length_le (by have := HL.out; omega)] at hp
        have hkl : (L2.take k).length = k := by rw [List.length_take]; have := HL2.out; omega
        have ho := HM.out.own.cut (m := k) (by omega) zs HZ.out
        rw [FTk_take] at ho
        refine ⟨L2.take k, hp, by rw [hkl]; rfl, by rw [hkl]; exact ho, HF.out.trans ((Off.refl [b] wr).setCells (by simp) zs _)⟩
end Go.Proofs.Ytndgladfcogiiaa


/- Contracts: the ledger behind any reply; a reply. -/
namespace Go.Proofs.Ytndgladfcogiiaa
open Go.RowKit
set_option maxRecDepth 100000
set_option linter.unusedVariables false

set_option maxHeartbeats 800000 in
theorem after_any (w : World) (B : Nat) (A : Option Addr) (n c : Nat) (L : List TkR) (h : OwnS w B 3 A n c (FTk L)) (hB : B ≤ w.heap.size) (hn : n ≤ 1000000) (x : ClR) (r : RpV)
    (hk : ∀ t ∈ L, KeyOk w (bkV A) t.A t.c t.ks) (h0 : ∀ t ∈ L, 0 < t.ks.length) (hx : KeyOk w (bkV A) x.A x.c x.ks) (x0 : 0 < x.ks.length) :
    Calls Try.prog 113 #[.slice A n c, ClA x.o x.p x.A x.ks.length x.c x.s, r.val] w (AftE w B A L x r.E r.c) := by
  by_cases h3 : r.E ≠ 0 ∨ x.o ≠ 3
  · exact after_no3 w B A n c L h hB hn x r h3
  have hE : r.E = 0 := Classical.byContradiction fun e => h3 (.inl e)
  have h3' : x.o = 3 := Classical.byContradiction fun e => h3 (.inr e)
  have b2 : Below w.heap.size w (aftW w x r) := ((clBl w x.o x.p x.A x.ks.length x.c x.s).alloc (by simp) _)
  have k1 := (clK w x.o x.p x.A x.ks.length x.c x.s).alloc (.cells #[.int .i64 r.E, .bool r.G, .int .i64 r.a, .int .i64 r.b, .int .i64 r.c, .int .i64 r.d] 82)
  have k2 := BlkL.new (clW w x.o x.p x.A x.ks.length x.c x.s) r.cells 82
  rw [show (clW w x.o x.p x.A x.ks.length x.c x.s).heap.size = w.heap.size + 1 by simp] at k2
  have c0 := k1.cell 0 _ rfl
  have lk := k1.lt
  have r0 := k2.cell 0 _ rfl
  have lr := k2.lt
  have hLd : LdM (aftW w x r) B A n c L x w.heap.size := ⟨h.below b2, fun t ht => (hk t ht).step (Off.of_below (S := []) b2) (by simp) (fun y hy => .inl hy), h0, k1, fun hh => by have := (h.lt _ hh).2; omega, hx.step (Off.of_below (S := []) b2) (by simp) (fun y hy => .inl hy), x0⟩
  have HDL := Lib.hid (del_any (aftW w x r) B A n c L x w.heap.size hLd hn)
  have HB2 := Lib.hid b2
  have e1 : (r.E != 0) = false := by simp [hE]
  have e2 : (((x.o : Nat) : Int) == 2) = false := beq_eq_false_iff_ne.2 (by omega)
  have e3 : (((x.o : Nat) : Int) == 3) = true := by rw [h3']; rfl
  have HE := Lib.hid (And.intro hE h3')
  clear h hk h0 hx x0 k1 k2 b2 hLd hE h3 h3'
  go_enter Try.func113, Try.ntmps113
  go_wp2_with fail
  with_reducible refine (HDL.out).mono ?_
  rintro e w1 ⟨L', hL', rfl, ho, hf⟩
  have HO := Lib.hid ho
  have HF := Lib.hid ((Off.of_below (S := bkV A) HB2.out).trans hf)
  have HL := Lib.hid hL'
  clear ho hf hL'
  go_wp2
  go_ret
  refine ⟨A, c, L', rfl, HO.out, HF.out, fun y hy => .inl hy, ?_, fun t ht => .inl (by rw [HL.out] at ht; exact (List.mem_filter.1 ht).1)⟩
  unfold afterV
  rw [if_neg (by simp [HE.out.1]), if_neg (by rw [show x.v.o = x.o from rfl, HE.out.2]; decide), if_pos (show x.v.o = 3 from HE.out.2), HL.out, List.filter_map]
  rfl
set_option maxHeartbeats 1600000 in
theorem cn_reply_goodR (w : World) (B cb : Nat) (D : CnD) (h : CnM w B cb D) (hB : B ≤ w.heap.size) (r : RpV) (hr : r.ok = true) (q : Nat × ClR) (ho : D.ob = some q) (h0 : ∀ t ∈ D.toks, 0 < t.ks.length) (x0 : 0 < q.2.ks.length) (hn : D.toks.length ≤ 1000000) (hu : D.us.length + 38 ≤ 140737488355328) :
    Calls Try.prog 63 #[.pointer (some ⟨cb, 0, none⟩), r.val] w fun e w' => ∃ A' c' L' A2 c2, CnE w B cb D { D with HA := A', hc := c', toks := L', ob := none, UA := A2, uc := c2, us := usR D r } (.int .i64 0) e w' ∧ L'.map TkR.v = afterV (D.toks.map TkR.v) q.2.v r.E r.c := by
  have HR := Lib.hid (reply_goodF (rpW w r) r hr)
  have k := rpK w r
  have c0 := k.cell 0 _ rfl
  have c1 := k.cell 1 _ rfl
  have c2 := k.cell 2 _ rfl
  have c3 := k.cell 3 _ rfl
  have c4 := k.cell 4 _ rfl
  have c5 := k.cell 5 _ rfl
  have lk := k.lt
  have HK := Lib.hid k
  have HLT0 : ∀ y ∈ D.M cb, y < w.heap.size := fun y hy => (h.lt y hy).2
  have HC := Lib.hid (h.below (rpBl w r))
  have HS := Lib.hid (Stp.of_below (cb := cb) (D := D) (rpBl w r))
  clear k
  go_enter Try.func63, Try.ntmps63
  go_wp2_with fail
  with_reducible refine (HR.out).mono ?_
  rintro e w1 ⟨XA, xc, rfl, ha, hb⟩
  have H1 := Lib.hid (HC.out.below hb)
  have S1 := Lib.hid (HS.out.trans (Stp.of_below hb))
  have HT : Hid (OwnV w1 w.heap.size XA 34 xc (r.bytes.map V8)) := Lib.hid (ha.mono (by simp))
  have HK1 := Lib.hid (HK.out.below hb)
  have b0 := HK1.out.cell 0 _ rfl
  have b1 := HK1.out.cell 1 _ rfl
  have b2 := HK1.out.cell 2 _ rfl
  have b3 := HK1.out.cell 3 _ rfl
  have b4 := HK1.out.cell 4 _ rfl
  have b5 := HK1.out.cell 5 _ rfl
  have lb := HK1.out.lt
  have d3 : w1.cell? ⟨cb, 3, none⟩ = some (.pointer (some ⟨q.1, 0, none⟩)) := by
    have := H1.out.blk.cell 3 _ rfl
    rw [ho] at this
    exact this
  have d6 : w1.cell? ⟨cb, 6, none⟩ = some (.slice D.HA D.toks.length D.hc) := H1.out.blk.cell 6 _ rfl
  have f6 := H1.out.blk.froz 6 (by simp [CnD.cells])
  have ld := H1.out.blk.lt
  obtain ⟨o1, o2, o3, o4⟩ := H1.out.out q ho
  have q0 : w1.cell? ⟨q.1, 0, none⟩ = some (.int .u8 q.2.o) := o1.cell 0 _ rfl
  have q1 : w1.cell? ⟨q.1, 1, none⟩ = some (.int .i64 q.2.p) := o1.cell 1 _ rfl
  have q2 : w1.cell? ⟨q.1, 2, none⟩ = some (.slice q.2.A q.2.ks.length q.2.c) := o1.cell 2 _ rfl
  have q3 : w1.cell? ⟨q.1, 3, none⟩ = some (.int .i64 q.2.s) := o1.cell 3 _ rfl
  have lq := o1.lt
  have hz1 := hb.size
  simp only [World.size_alloc] at hz1
  have HAF := Lib.hid (after_any w1.drew B D.HA D.toks.length D.hc D.toks ((H1.out.held.below ((Below.refl _ _).drew))) (by simp; omega) hn q.2 r
    (fun t ht => (H1.out.kh t ht).step (Off.of_below (S := []) (Below.refl _ _).drew) (by simp) (fun y hy => .inl (by simp [CnD.M, hy]))) h0
    (o4.step (Off.of_below (S := []) (Below.refl _ _).drew) (by simp) (fun y hy => .inl (by simp [CnD.M, hy]))) x0)
  clear hb ha HR HC HS HK h c0 c1 c2 c3 c4 c5 lk o1 o2 o3 o4 h0 x0
  have HD := Lib.hid (H1.out.below (Below.refl _ _).drew)
  have HSD := Lib.hid (S1.out.trans (Stp.of_below (cb := cb) (D := D) (Below.refl w1.heap.size w1).drew))
  have HLT : Hid (∀ y ∈ D.M cb, y < w.heap.size) := Lib.hid HLT0
  clear HLT0
  go_upto_region 6 with (fail)
  go_cut [] (fun wx => RpS w B cb D q r XA xc wx)
  case first =>
    go_region_with (first | (go_at_call 113; refine (HAF.out).mono ?_; rintro e w2 ⟨A', c', L', rfl, hown, hf, hbk, hv, hk⟩; have g6 := (HD.out.blk.off hf HD.out.dj.cH).cell 6 _ rfl; have gf6 := (HD.out.blk.off hf HD.out.dj.cH).froz 6 (by simp [CnD.cells]); have gl := (HD.out.blk.off hf HD.out.dj.cH).lt))
    all_goals
      go_wp2_with fail
      go_meet
      exact rp_mid HD.out HSD.out HLT.out ho (HT.out.below (Below.refl _ _).drew) hown hf hbk hv hk
  case rest =>
    obtain ⟨A1, c1, L1, h2, s2, hv2, ht2, hn2⟩ := hcut
    have H2 := Lib.hid h2
    have S2 := Lib.hid s2
    have HV2 := Lib.hid hv2
    have HT2 := Lib.hid ht2
    have HN2 := Lib.hid hn2
    have g3 : wc.cell? ⟨cb, 3, none⟩ = some (.pointer (some ⟨q.1, 0, none⟩)) := by
      have := h2.blk.cell 3 _ rfl
      rw [show (D.led A1 c1 L1).ob = some q from ho] at this
      exact this
    have gf3 := h2.blk.froz 3 (by simp [CnD.cells])
    have g4 : wc.cell? ⟨cb, 4, none⟩ = some (.bool D.cl) := h2.blk.cell 4 _ rfl
    have gl := h2.blk.lt
    have fo : Off [cb] wc (wc.setCell ⟨cb, 3, none⟩ (.pointer none)) := (Off.refl _ _).setCell (p := ⟨cb, 3, none⟩) (by simp) _
    have hb := h2.blk.set 3 (.pointer none) (by simp [CnD.cells])
    have hr3 := h2.upd (D' := { D.led A1 c1 L1 with ob := none }) fo hb ⟨.inr ⟨rfl, rfl, rfl, rfl, rfl, rfl⟩, .inr ⟨rfl, rfl, rfl⟩, .inl rfl, .inr ⟨rfl, rfl, rfl⟩, rfl, rfl, rfl⟩
    have H3 := Lib.hid hr3.1
    have S3 := Lib.hid (S2.out.trans hr3.2)
    have HT3 := Lib.hid (HT2.out.off fo (fun y hy hh => by simp at hh; subst hh; exact HN2.out y hy (by simp [CnD.M])))
    have HBX := Lib.hid (HT3.out.arg' (rp_byte hr))
    clear h2 s2 hv2 ht2 hn2 hb hr3 fo HT2 HN2 H2 S2
    cases hcl : D.cl with
    | true =>
      rw [hcl] at g4
      have HCL := Lib.hid hcl
      clear hcl
      go_wp2
      go_ret
      refine ⟨A1, c1, L1, ⟨D.UA, D.uc, rfl, ?_, ?_⟩, HV2.out⟩
      · rw [show usR D r = D.us from if_pos HCL.out]; exact H3.out
      · rw [show usR D r = D.us from if_pos HCL.out]; exact S3.out
    | false =>
      rw [hcl] at g4
      have HCL := Lib.hid hcl
      clear hcl
      have HW := Lib.hid (cn_write _ B cb _ H3.out (by have := S3.out.off.size; simp at this ⊢; omega) XA 34 xc r.bytes HBX.out (by omega) (by omega) (by show D.us.length + (34 + 4) ≤ _; omega))
      go_wp2_with fail
      with_reducible refine (HW.out).mono ?_
      rintro e w4 ⟨A2, c2, rfl, h4, s4⟩
      have H4 := Lib.hid h4
      have S4 := Lib.hid (S3.out.trans s4)
      clear h4 s4 HW
      go_wp2
      go_ret
      have hno : ¬ D.cl = true := by rw [HCL.out]; simp
      refine ⟨A1, c1, L1, A2, c2, ⟨rfl, ?_, ?_⟩, HV2.out⟩
      · rw [show usR D r = D.us ++ Fr.encV r.bytes from if_neg hno]; exact H4.out
      · rw [show usR D r = D.us ++ Fr.encV r.bytes from if_neg hno]; exact S4.out
section
variable {w : World} {B cb : Nat} {D : CnD}
theorem ab_replyR (h : CnM w B cb D) (hB : B ≤ w.heap.size) (r : RpV) (hr : r.ok = true) (q : Nat × ClR) (x : ClV) (ho : D.ob = some q) (hq : q.2.v = x) (h0 : ∀ t ∈ D.toks, 0 < t.ks.length) (x0 : 0 < q.2.ks.length) (hn : D.toks.length ≤ 1000000) (us' : List Nat) (hu : us' = if D.cl then D.us else D.us ++ Fr.encV r.bytes) (ts' : List TkV) (ht : ts' = afterV (D.toks.map TkR.v) x r.E r.c) (hul : D.us.length + 38 ≤ 140737488355328) :
    Calls Try.prog 63 #[.pointer (some ⟨cb, 0, none⟩), r.val] w fun e w' => ∃ D', e = .returned (.int .i64 0) ∧ CnM w' B cb D' ∧ Stp w w' cb D D' ∧ D'.ob = none ∧ D'.us = us' ∧ D'.toks.map TkR.v = ts' ∧ D'.rows = D.rows ∧ Kept D D' := by
  subst hq
  refine (cn_reply_goodR w B cb D h hB r hr q ho h0 x0 hn hul).mono ?_
  rintro e w' ⟨A', c', L', A2, c2, ⟨he, hc, hs⟩, hv⟩
  exact ⟨_, he, hc, hs, rfl, by rw [hu]; rfl, by rw [ht]; exact hv, rfl, ⟨rfl, rfl, rfl, rfl, rfl⟩⟩
end
end Go.Proofs.Ytndgladfcogiiaa


/- The law ConnLedger: a connection and the law's own list, side by side. -/
namespace Go.Proofs.Ytndgladfcogiiaa
open Go.RowKit
set_option maxRecDepth 100000
set_option linter.unusedVariables false

/-- The token of a serial. -/
def lgT (s : Int) : TkV := ⟨1, s, [97 + (s % 2).toNat]⟩
abbrev lgI (s : Int) : Value := .int .i64 s
structure LgS (w : World) (B cb rb : Nat) (D : CnD) (A : Option Addr) (n c : Nat) (hs : List Int) (ts : List TkV) : Prop where
  cn : CnM w B cb D
  hB : B ≤ w.heap.size
  own : OwnV w B A n c (hs.map lgI)
  nm : ∀ y ∈ bkV A, y ∉ D.M cb
  nr : ∀ y ∈ bkV A, y ∉ D.R
  rb_ : D.rb = some rb
  ws : D.ws = []
  rc : D.rc = false
  cl : D.cl = false
  fin : D.fin = 0
  tk : D.toks.map TkR.v = ts
section
variable {w w' : World} {B cb rb n c : Nat} {D D' : CnD} {A : Option Addr} {hs : List Int} {ts ts' : List TkV}
theorem LgS.len (h : LgS w B cb rb D A n c hs ts) : hs.length = n := by have := h.own.len; simpa using this
theorem LgS.stp (h : LgS w B cb rb D A n c hs ts) (hc : CnM w' B cb D') (hs' : Stp w w' cb D D') (hr : D'.rb = some rb) (hw : D'.ws = []) (hrc : D'.rc = false) (hcl : D'.cl = false) (hf : D'.fin = 0) (ht : D'.toks.map TkR.v = ts') : LgS w' B cb rb D' A n c hs ts' :=
  ⟨hc, Nat.le_trans h.hB hs'.off.size, h.own.off hs'.off h.nm, fun y hy hm => (hs'.m y hm).elim (h.nm y hy) (fun e => by have := (h.own.lt y hy).2; omega), fun y hy hm => (hs'.r y hm).elim (h.nr y hy) (fun e => by have := (h.own.lt y hy).2; omega), hr, hw, hrc, hcl, hf, ht⟩
theorem LgS.below (h : LgS w B cb rb D A n c hs ts) (hb : Below w.heap.size w w') : LgS w' B cb rb D A n c hs ts :=
  h.stp (h.cn.below hb) (Stp.of_below hb) h.rb_ h.ws h.rc h.cl h.fin h.tk
/-- The own list grows. -/
theorem LgS.grow {n' c' : Nat} {A' : Option Addr} {hs' : List Int} (h : LgS w B cb rb D A n c hs ts) (ho : OwnV w' B A' n' c' (hs'.map lgI)) (hf : Off (bkV A) w w') (hA : ∀ y ∈ bkV A', y ∈ bkV A ∨ w.heap.size ≤ y) : LgS w' B cb rb D A' n' c' hs' ts :=
  ⟨h.cn.off hf (fun y hy hm => h.nm y hm hy) (fun y hy hm => h.nr y hm hy), Nat.le_trans h.hB hf.size, ho,
    fun y hy hm => (hA y hy).elim (fun e => h.nm y e hm) (fun e => by have := (h.cn.lt y hm).2; omega), fun y hy hm => (hA y hy).elim (fun e => h.nr y e hm) (fun e => by have := (h.cn.ltR y hm).1; omega), h.rb_, h.ws, h.rc, h.cl, h.fin, h.tk⟩
theorem LgS.feed (h : LgS w B cb rb D A n c hs ts) (hrow : D.rows = []) (hob : D.ob = none) (x : ClV) (hx : rqC x.o x.p x.s x.ks.length = 0) (hux : usedV x = x) (XA : Option Addr) (m xc : Nat) (ha : Arg w w.heap.size XA m xc (rqF x)) :
    Calls Try.prog 61 #[.pointer (some ⟨cb, 0, none⟩), .slice XA m xc] w fun e w' => ∃ D', e = .returned (.int .i64 0) ∧ LgS w' B cb rb D' A n c hs ts ∧ Stp w w' cb D D' ∧ D'.rows.map ClR.v = [x] ∧ D'.ob = none ∧ D'.us = D.us := by
  have e1 : fdV D.ws (rqF x) = ([usedV x], 0) := by rw [h.ws]; exact fd_one hx
  have e2 : Fr.frV (D.ws ++ rqF x) = ([rqB x.o x.p x.s x.ks], [], false) := by rw [h.ws]; exact fr_one hx
  have hm : (rqF x).length ≤ 4100 := by
    have e3 : rqF x = Fr.encV (rqB x.o x.p x.s x.ks) := by unfold rqF; rw [if_pos hx]
    rw [e3, encV_length]; have := rqB_max hx; omega
  have hml := ha.len
  refine (ab_feed w B cb D h.cn h.hB rb h.rb_ h.rc h.cl h.fin XA m xc (rqF x) ha _ e1 [] (by rw [e2]) (by rw [h.ws]; simp; omega) (by rw [e2, hrow]; simp)).mono ?_
  rintro e w' ⟨D', he, hc, hst, hv, hf, h0, ho, hcl, hus, htk⟩
  obtain ⟨a1, a2, a3⟩ := h0 rfl
  exact ⟨D', he, h.stp hc hst a1 a2 a3 (hcl.trans h.cl) hf (by rw [htk]; exact h.tk), hst, by rw [hv, hrow, hux]; rfl, ho.trans hob, hus⟩
theorem LgS.next (h : LgS w B cb rb D A n c hs ts) (x : ClV) (hrow : D.rows.map ClR.v = [x]) (hob : D.ob = none) (m : Nat) (hm : x.ks.length = m) (hm2 : m ≤ 255) :
    Calls Try.prog 62 #[.pointer (some ⟨cb, 0, none⟩)] w fun e w' => ∃ KB kc D' q, e = .returned (.tuple #[ClA x.o x.p KB m kc x.s, .int .i64 0]) ∧ LgS w' B cb rb D' A n c hs ts ∧ Stp w w' cb D D' ∧ D'.ob = some q ∧ q.2.v = x ∧ D'.rows = [] ∧ D'.us = D.us := by
  refine (ab_next w B cb D h.cn h.hB hob h.cl x [] hrow (by omega) m hm).mono ?_
  rintro e w' ⟨KB, kc, D', q, he, _, hc, hst, ho, hq, hr, hk, hu, ht⟩
  exact ⟨KB, kc, D', q, he, h.stp hc hst (hk.rb.trans h.rb_) (hk.ws.trans h.ws) (hk.rc.trans h.rc) (hk.cl.trans h.cl) (hk.fin.trans h.fin) (by rw [ht]; exact h.tk), hst, ho, hq, by simpa using hr, hu⟩
theorem LgS.reply (h : LgS w B cb rb D A n c hs ts) (q : Nat × ClR) (hob : D.ob = some q) (x : ClV) (hq : q.2.v = x) (hrow : D.rows = []) (r : RpV) (hr : r.ok = true) (x0 : 0 < x.ks.length) (h0 : ∀ t ∈ ts, 0 < t.ks.length) (hn : ts.length ≤ 1000) (hu : D.us.length ≤ 100000) (ts' : List TkV) (ht : ts' = afterV ts x r.E r.c) :
    Calls Try.prog 63 #[.pointer (some ⟨cb, 0, none⟩), r.val] w fun e w' => ∃ D', e = .returned (.int .i64 0) ∧ LgS w' B cb rb D' A n c hs ts' ∧ Stp w w' cb D D' ∧ D'.ob = none ∧ D'.rows = [] ∧ D'.us.length = D.us.length + 38 := by
  have htk := h.tk
  have hnl : D.toks.length = ts.length := by rw [← htk]; simp
  refine (ab_replyR h.cn h.hB r hr q x hob hq (fun t htt => h0 t.v (by rw [← htk]; exact List.mem_map_of_mem htt)) (by rw [show q.2.ks = q.2.v.ks from rfl, hq]; exact x0) (by omega) _ rfl ts' (by rw [htk]; exact ht) (by omega)).mono ?_
  rintro e w' ⟨D', he, hc, hst, ho, hus, htt, hro, hk⟩
  refine ⟨D', he, h.stp hc hst (hk.rb.trans h.rb_) (hk.ws.trans h.ws) (hk.rc.trans h.rc) (hk.cl.trans h.cl) (hk.fin.trans h.fin) htt, hst, ho, hro.trans hrow, ?_⟩
  rw [hus, h.cl]
  simp [encV_length, RpV.len]
end
end Go.Proofs.Ytndgladfcogiiaa


/- The law ConnLedger: all that stands in memory in a round. -/
namespace Go.Proofs.Ytndgladfcogiiaa
open Go.RowKit
set_option maxRecDepth 100000
set_option linter.unusedVariables false

theorem i64_info : (Try.prog.info? 2).map (fun i => (i.zero, i.size, i.bytes)) = some (some (.int .i64 0), 1, 8) := by kernel_rfl
theorem info_parts64 : ∃ i0, Try.prog.info? 2 = some i0 ∧ i0.zero = some (.int .i64 0) ∧ i0.size = 1 ∧ i0.bytes = 8 := by
  have h := i64_info
  cases hh : Try.prog.info? 2 with
  | none => rw [hh] at h; cases h
  | some i0 =>
    rw [hh] at h
    simp only [Option.map_some, Option.some.injEq, Prod.mk.injEq] at h
    exact ⟨i0, rfl, h.1, h.2.1, h.2.2⟩
/-- The script, the connection, the own list, the call and the reply. -/
structure LgK (u w : World) (SA : Option Addr) (sn sc : Nat) (zs : List Nat) (B cb rb : Nat) (D : CnD) (A : Option Addr) (n c : Nat) (hs : List Int) (ts : List TkV) (p9 p10 : Nat) (x : ClV) (xA : Option Addr) (r : RpV) : Prop where
  s : LgS w B cb rb D A n c hs ts
  bw : Below u.heap.size u w
  uB : u.heap.size ≤ B
  sa : Arg w u.heap.size SA sn sc zs
  k9 : BlkL w p9 [.int .u8 x.o, .int .i64 x.p, .slice xA 1 1, .int .i64 x.s]
  k10 : BlkL w p10 r.cells
  n9 : p9 ∉ D.M cb
  n10 : p10 ∉ D.M cb
  o9 : p9 ∉ bkV A
  o10 : p10 ∉ bkV A
section
variable {u w w' : World} {SA : Option Addr} {sn sc : Nat} {zs : List Nat} {B cb rb n c : Nat} {D D' : CnD} {A : Option Addr} {hs : List Int} {ts ts' : List TkV} {p9 p10 : Nat} {x : ClV} {xA : Option Addr} {r : RpV}
theorem LgK.stp (h : LgK u w SA sn sc zs B cb rb D A n c hs ts p9 p10 x xA r) (hl : LgS w' B cb rb D' A n c hs ts') (hst : Stp w w' cb D D') : LgK u w' SA sn sc zs B cb rb D' A n c hs ts' p9 p10 x xA r := by
  have hb := (hst.below h.s.cn h.s.hB).mono h.uB
  exact ⟨hl, h.bw.trans hb, h.uB, h.sa.below hb, h.k9.off hst.off h.n9, h.k10.off hst.off h.n10, fun e => (hst.m _ e).elim h.n9 (fun e => by have := h.k9.lt; omega), fun e => (hst.m _ e).elim h.n10 (fun e => by have := h.k10.lt; omega), h.o9, h.o10⟩
theorem LgK.below (h : LgK u w SA sn sc zs B cb rb D A n c hs ts p9 p10 x xA r) (hb : Below w.heap.size w w') : LgK u w' SA sn sc zs B cb rb D A n c hs ts p9 p10 x xA r :=
  h.stp (h.s.below hb) (Stp.of_below hb)
theorem LgK.feed (h : LgK u w SA sn sc zs B cb rb D A n c hs ts p9 p10 x xA r) (hrow : D.rows = []) (hob : D.ob = none) (hx : rqC x.o x.p x.s x.ks.length = 0) (hux : usedV x = x) (XA : Option Addr) (m xc : Nat) (ha : Arg w w.heap.size XA m xc (rqF x)) :
    Calls Try.prog 61 #[.pointer (some ⟨cb, 0, none⟩), .slice XA m xc] w fun e w' => ∃ D', e = .returned (.int .i64 0) ∧ LgK u w' SA sn sc zs B cb rb D' A n c hs ts p9 p10 x xA r ∧ D'.rows.map ClR.v = [x] ∧ D'.ob = none ∧ D'.us = D.us := by
  refine (h.s.feed hrow hob x hx hux XA m xc ha).mono ?_
  rintro e w' ⟨D', he, hl, hst, h1, h2, h3⟩
  exact ⟨D', he, h.stp hl hst, h1, h2, h3⟩
theorem LgK.next (h : LgK u w SA sn sc zs B cb rb D A n c hs ts p9 p10 x xA r) (hrow : D.rows.map ClR.v = [x]) (hob : D.ob = none) (m : Nat) (hm : x.ks.length = m) (hm2 : m ≤ 255) :
    Calls Try.prog 62 #[.pointer (some ⟨cb, 0, none⟩)] w fun e w' => ∃ KB kc D' q, e = .returned (.tuple #[ClA x.o x.p KB m kc x.s, .int .i64 0]) ∧ LgK u w' SA sn sc zs B cb rb D' A n c hs ts p9 p10 x xA r ∧ D'.ob = some q ∧ q.2.v = x ∧ D'.rows = [] ∧ D'.us = D.us := by
  refine (h.s.next x hrow hob m hm hm2).mono ?_
  rintro e w' ⟨KB, kc, D', q, he, hl, hst, h1, h2, h3, h4⟩
  exact ⟨KB, kc, D', q, he, h.stp hl hst, h1, h2, h3, h4⟩
theorem LgK.reply (h : LgK u w SA sn sc zs B cb rb D A n c hs ts p9 p10 x xA r) (q : Nat × ClR) (hob : D.ob = some q) (hq : q.2.v = x) (hrow : D.rows = []) (hr : r.ok = true) (x0 : 0 < x.ks.length) (h0 : ∀ t ∈ ts, 0 < t.ks.length) (hn : ts.length ≤ 1000) (hu : D.us.length ≤ 100000) (ts' : List TkV) (ht : ts' = afterV ts x r.E r.c) :
    Calls Try.prog 63 #[.pointer (some ⟨cb, 0, none⟩), r.val] w fun e w' => ∃ D', e = .returned (.int .i64 0) ∧ LgK u w' SA sn sc zs B cb rb D' A n c hs ts' p9 p10 x xA r ∧ D'.ob = none ∧ D'.rows = [] ∧ D'.us.length = D.us.length + 38 := by
  refine (h.s.reply q hob x hq hrow r hr x0 h0 hn hu ts' ht).mono ?_
  rintro e w' ⟨D', he, hl, hst, h1, h2, h3⟩
  exact ⟨D', he, h.stp hl hst, h1, h2, h3⟩
/-- The own list grows. -/
theorem LgK.grow {n' c' : Nat} {A' : Option Addr} {hs' : List Int} (h : LgK u w SA sn sc zs B cb rb D A n c hs ts p9 p10 x xA r) (ho : OwnV w' B A' n' c' (hs'.map lgI)) (hf : Off (bkV A) w w') (hA : ∀ y ∈ bkV A', y ∈ bkV A ∨ w.heap.size ≤ y) : LgK u w' SA sn sc zs B cb rb D A' n' c' hs' ts p9 p10 x xA r := by
  have hb : Below u.heap.size w w' := (hf.below (B := B) h.s.hB (fun y hy => (h.s.own.lt y hy).1)).mono h.uB
  exact ⟨h.s.grow ho hf hA, h.bw.trans hb, h.uB, h.sa.below hb, h.k9.off hf h.o9, h.k10.off hf h.o10, h.n9, h.n10, fun e => (hA _ e).elim h.o9 (fun e => by have := h.k9.lt; omega), fun e => (hA _ e).elim h.o10 (fun e => by have := h.k10.lt; omega)⟩
/-- A second list beside the first one. -/
structure LgL (u w : World) (SA : Option Addr) (sn sc : Nat) (zs : List Nat) (B cb rb : Nat) (D : CnD) (A : Option Addr) (n c : Nat) (hs : List Int) (ts : List TkV) (p9 p10 : Nat) (x : ClV) (xA : Option Addr) (r : RpV) (A2 : Option Addr) (n2 c2 : Nat) (l2 : List Int) : Prop where
  k : LgK u w SA sn sc zs B cb rb D A n c hs ts p9 p10 x xA r
  own2 : OwnV w B A2 n2 c2 (l2.map lgI)
  m2 : ∀ y ∈ bkV A2, y ∉ D.M cb
  r2 : ∀ y ∈ bkV A2, y ∉ D.R
  a2 : ∀ y ∈ bkV A2, y ∉ bkV A
  q9 : p9 ∉ bkV A2
  q10 : p10 ∉ bkV A2
variable {A2 : Option Addr} {n2 c2 : Nat} {l2 : List Int}
theorem LgK.two (h : LgK u w SA sn sc zs B cb rb D A n c hs ts p9 p10 x xA r) : LgL u w SA sn sc zs B cb rb D A n c hs ts p9 p10 x xA r none 0 0 [] :=
  ⟨h, OwnV.nil _ _, by simp [bkV], by simp [bkV], by simp [bkV], by simp [bkV], by simp [bkV]⟩
theorem LgL.below (h : LgL u w SA sn sc zs B cb rb D A n c hs ts p9 p10 x xA r A2 n2 c2 l2) (hb : Below w.heap.size w w') : LgL u w' SA sn sc zs B cb rb D A n c hs ts p9 p10 x xA r A2 n2 c2 l2 :=
  ⟨h.k.below hb, h.own2.below hb, h.m2, h.r2, h.a2, h.q9, h.q10⟩
theorem LgL.grow {n' c' : Nat} {A' : Option Addr} {l' : List Int} (h : LgL u w SA sn sc zs B cb rb D A n c hs ts p9 p10 x xA r A2 n2 c2 l2) (ho : OwnV w' B A' n' c' (l'.map lgI)) (hf : Off (bkV A2) w w') (hA : ∀ y ∈ bkV A', y ∈ bkV A2 ∨ w.heap.size ≤ y) : LgL u w' SA sn sc zs B cb rb D A n c hs ts p9 p10 x xA r A' n' c' l' := by
  have hb : Below u.heap.size w w' := (hf.below (B := B) h.k.s.hB (fun y hy => (h.own2.lt y hy).1)).mono h.k.uB
  have s := h.k.s
  refine ⟨⟨⟨s.cn.off hf (fun y hy hm => h.m2 y hm hy) (fun y hy hm => h.r2 y hm hy), Nat.le_trans s.hB hf.size, s.own.off hf (fun y hy hm => h.a2 y hm hy), s.nm, s.nr, s.rb_, s.ws, s.rc, s.cl, s.fin, s.tk⟩, h.k.bw.trans hb, h.k.uB, h.k.sa.below hb, h.k.k9.off hf h.q9, h.k.k10.off hf h.q10, h.k.n9, h.k.n10, h.k.o9, h.k.o10⟩, ho, ?_, ?_, ?_, ?_, ?_⟩
  · exact fun y hy hm => (hA y hy).elim (fun e => h.m2 y e hm) (fun e => by have := (s.cn.lt y hm).2; omega)
  · exact fun y hy hm => (hA y hy).elim (fun e => h.r2 y e hm) (fun e => by have := (s.cn.ltR y hm).1; omega)
  · exact fun y hy hm => (hA y hy).elim (fun e => h.a2 y e hm) (fun e => by have := (s.own.lt y hm).2; omega)
  · exact fun e => (hA _ e).elim h.q9 (fun e => by have := h.k.k9.lt; omega)
  · exact fun e => (hA _ e).elim h.q10 (fun e => by have := h.k.k10.lt; omega)
theorem LgL.swap (h : LgL u w SA sn sc zs B cb rb D A n c hs ts p9 p10 x xA r A2 n2 c2 l2) : LgS w B cb rb D A2 n2 c2 l2 ts :=
  ⟨h.k.s.cn, h.k.s.hB, h.own2, h.m2, h.r2, h.k.s.rb_, h.k.s.ws, h.k.s.rc, h.k.s.cl, h.k.s.fin, h.k.s.tk⟩
end
theorem after_acq (ts : List TkV) (k : List Nat) (s : Int) : ts ++ [⟨1, s, k⟩] = afterV ts ⟨2, 1, 0, k⟩ 0 s := by simp [afterV]
theorem after_no (ts : List TkV) (x : ClV) (E s : Int) (h : E ≠ 0) : ts = afterV ts x E s := by simp [afterV, h]
theorem after_rel (hs : List Int) (N s : Int) : (hs.filter (fun v => !decide (v = N))).map lgT = afterV (hs.map lgT) ⟨3, 1, N, [97 + (N % 2).toNat]⟩ 0 s := by
  unfold afterV
  rw [if_neg (by simp), if_neg (by simp), if_pos rfl, List.filter_map]
  congr 1
  refine List.filter_congr fun v _ => ?_
  simp only [Function.comp, lgT]
  by_cases e : v = N
  · subst e; simp
  · simp [e]
end Go.Proofs.Ytndgladfcogiiaa
