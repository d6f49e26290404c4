/- The ledger behind any reply; a connection fed in pieces; the law ConnOrder: its walk. -/
import Derived.Test.YtndgladfcogiiaaCnAll
import Derived.Laws.BytesString
import Derived.Test.YtndgladfcogiiaaCnArgM
import Derived.Deep.CutBlock
import Derived.Deep.DeepCutAuto
import Derived.Deep.RegionLaw
import Derived.BigQuiet
import Derived.Laws.Cover3

/- The ledger behind any reply, keys of any length; the end of the line; a connection that is fed in pieces. -/

/- Contracts: is it the token that a Release gives back; the first such token. -/
namespace Go.Proofs.Ytndgladfcogiiaa
open Go.RowKit
set_option maxRecDepth 100000
set_option linter.unusedVariables false

theorem conv_arg0 (w : World) (A : Option Addr) (c : Nat) : (convert 22 9 (.slice A 0 c)).run Try.prog w = .ok (.string (strOfNums (([] : List Nat).map Int.ofNat))) w := by
  rw [run_convert_bytes_string w 22 9 5 A 0 c Try.underlying22 Try.underlying5 Try.underlying9]
  cases A with
  | none => simp [Conv.bytesToString, strOfNums]; rfl
  | some a => simp [Conv.bytesToString, strOfNums, loadCells]; rfl
theorem conv_all {w : World} {B n c : Nat} {A : Option Addr} {zs : List Nat} (h : Arg w B A n c zs) :
    (convert 22 9 (.slice A n c)).run Try.prog w = .ok (.string (strOfNums (zs.map Int.ofNat))) w := by
  by_cases hn : 0 < n
  · exact conv_arg h hn
  · obtain rfl : n = 0 := by omega
    obtain rfl : zs = [] := List.eq_nil_of_length_eq_zero h.len
    exact conv_arg0 w A c
set_option maxHeartbeats 400000 in
theorem equal_all (w : World) (B B' : Nat) (A A' : Option Addr) (n c m d : Nat) (xs ys : List Nat) (r : Bool) (hr : decide (xs = ys) = r) (h : Arg w B A n c xs) (h' : Arg w B' A' m d ys) :
    Calls Try.prog 75 #[.slice A n c, .slice A' m d] w fun e w' => e = .returned (.bool r) ∧ w = w' := by
  have h1 := conv_all h
  have h2 := conv_all h'
  have HS := Lib.hid (strs_eq xs ys h.byte h'.byte)
  have HR := Lib.hid hr
  clear h h' hr
  go_enter Try.func75, Try.ntmps75
  go_wp2
  go_ret
  exact ⟨ret_bool (by rw [HS.out, HR.out]), rfl⟩
/-- Is it the token that is given back? -/
def isV (t : TkV) (x : ClV) : Bool := decide (t.s = x.s) && (decide (t.p = x.p) && decide (t.ks = x.ks))
abbrev isW1 (w : World) (t : TkR) : World := w.alloc (.cells #[.int .i64 t.p, .slice t.A t.ks.length t.c, .int .i64 t.s] 24)
abbrev isW (w : World) (t : TkR) (x : ClR) : World := clW (isW1 w t) x.o x.p x.A x.ks.length x.c x.s
theorem isBl (w : World) (t : TkR) (x : ClR) : Below w.heap.size w (isW w t x) :=
  ((Below.refl _ _).alloc (Nat.le_refl _) _).trans ((clBl (isW1 w t) x.o x.p x.A x.ks.length x.c x.s).mono (by simp))
set_option maxHeartbeats 1600000 in
theorem isof_any (w : World) (t : TkR) (x : ClR) (ht : Arg w w.heap.size t.A t.ks.length t.c t.ks) (hx : Arg w w.heap.size x.A x.ks.length x.c x.ks) :
    Calls Try.prog 132 #[.agg #[.int .i64 t.p, .slice t.A t.ks.length t.c, .int .i64 t.s], ClA x.o x.p x.A x.ks.length x.c x.s] w fun e w' => e = .returned (.bool (isV t.v x.v)) ∧ Below w.heap.size w w' := by
  have kt := (BlkL.new w t.cells 24).below (clBl (isW1 w t) x.o x.p x.A x.ks.length x.c x.s)
  have kx := clK (isW1 w t) x.o x.p x.A x.ks.length x.c x.s
  have hs1 : (isW1 w t).heap.size = w.heap.size + 1 := by simp
  rw [hs1] at kx
  have HEQ := Lib.hid (equal_all (isW w t x) _ _ t.A x.A t.ks.length t.c x.ks.length x.c t.ks x.ks (decide (t.ks = x.ks)) rfl (ht.below (isBl w t x)) (hx.below (isBl w t x)))
  have HB := Lib.hid (isBl w t x)
  have a0 := kt.cell 0 _ rfl
  have a1 := kt.cell 1 _ rfl
  have a2 := kt.cell 2 _ rfl
  have b1 := kx.cell 1 _ rfl
  have b2 := kx.cell 2 _ rfl
  have b3 := kx.cell 3 _ rfl
  have l1 := kt.lt
  have l2 := kx.lt
  obtain ⟨tp, ts, tA, tc, tk⟩ := t
  obtain ⟨xo, xp, xs, xA, xc, xk⟩ := x
  dsimp only at *
  unfold isV
  dsimp only
  clear ht hx kt kx hs1
  by_cases e : ts = xs
  · have g1 : (ts == xs) = true := by simpa using e
    by_cases e2 : tp = xp
    · have g2 : (tp == xp) = true := by simpa using e2
      have HE := Lib.hid (And.intro e e2)
      generalize hr : decide (tk = xk) = r at *
      clear e e2 hr
      go_enter Try.func132, Try.ntmps132
      go_wp2_with fail
      with_reducible refine (HEQ.out).mono ?_
      rintro e w1 ⟨rfl, hw⟩
      subst hw
      go_wp2
      go_ret
      exact ⟨by rw [HE.out.1, HE.out.2]; simp, HB.out⟩
    · have g2 : (tp == xp) = false := by simpa using e2
      have HE := Lib.hid (And.intro e e2)
      clear e e2 HEQ
      go_enter Try.func132, Try.ntmps132
      go_wp2
      go_ret
      exact ⟨by simp [HE.out.2], HB.out⟩
  · have g1 : (ts == xs) = false := by simpa using e
    have HE := Lib.hid e
    clear e HEQ
    go_enter Try.func132, Try.ntmps132
    go_wp2
    go_ret
    exact ⟨by simp [HE.out], HB.out⟩
/-- The closure. -/
theorem clos_any (w : World) (qb : Nat) (t : TkR) (x : ClR) (hq : BlkL w qb x.cells) (ht : Arg w w.heap.size t.A t.ks.length t.c t.ks) (hx : Arg w w.heap.size x.A x.ks.length x.c x.ks) :
    Calls Try.prog 131 #[.agg #[.int .i64 t.p, .slice t.A t.ks.length t.c, .int .i64 t.s], .pointer (some ⟨qb, 0, none⟩)] w fun e w' => e = .returned (.bool (isV t.v x.v)) ∧ Below w.heap.size w w' := by
  have hb1 : Below w.heap.size w (isW1 w t) := (Below.refl _ _).alloc (Nat.le_refl _) _
  have HI := Lib.hid (isof_any (isW1 w t) t x ((ht.below hb1).more hb1.size) ((hx.below hb1).more hb1.size))
  have kt := BlkL.new w t.cells 24
  have kq := hq.below hb1
  have HB := Lib.hid hb1
  have a0 := kt.cell 0 _ rfl
  have a1 := kt.cell 1 _ rfl
  have a2 := kt.cell 2 _ rfl
  have b0 := kq.cell 0 _ rfl
  have b1 := kq.cell 1 _ rfl
  have b2 := kq.cell 2 _ rfl
  have b3 := kq.cell 3 _ rfl
  have l1 := kt.lt
  have l2 := kq.lt
  clear kt kq hq ht hx hb1
  go_enter Try.func131, Try.ntmps131
  go_wp2_with fail
  with_reducible refine (HI.out).mono ?_
  rintro e w1 ⟨rfl, hb⟩
  have HB1 := Lib.hid (HB.out.trans (hb.mono (by simp)))
  clear hb
  go_wp2
  go_ret
  exact ⟨rfl, HB1.out⟩
end Go.Proofs.Ytndgladfcogiiaa

/- Contracts: the first token that is given back. -/
namespace Go.Proofs.Ytndgladfcogiiaa
open Go.RowKit
set_option maxRecDepth 100000
set_option linter.unusedVariables false

/-- A ledger, and a Release that is looked for in it. -/
structure LdM (w : World) (B : Nat) (A : Option Addr) (n c : Nat) (L : List TkR) (x : ClR) (qb : Nat) : Prop where
  own : OwnS w B 3 A n c (FTk L)
  kl : ∀ t ∈ L, KeyOk w (bkV A) t.A t.c t.ks
  q : BlkL w qb x.cells
  qn : qb ∉ bkV A
  xk : KeyOk w (bkV A) x.A x.c x.ks
section
variable {w w' : World} {B n c qb : Nat} {A : Option Addr} {L : List TkR} {x : ClR}
theorem LdM.len (h : LdM w B A n c L x qb) : L.length = n := by have := h.own.len; rw [FTk_len] at this; omega
theorem LdM.below (h : LdM w B A n c L x qb) (hb : Below w.heap.size w w') : LdM w' B A n c L x qb :=
  ⟨h.own.below hb, fun t ht => (h.kl t ht).step (Off.of_below (S := []) hb) (by simp) (fun y hy => .inl hy), h.q.below hb, h.qn, h.xk.step (Off.of_below (S := []) hb) (by simp) (fun y hy => .inl hy)⟩
theorem LdM.clos (h : LdM w B A n c L x qb) (t : TkR) (ht : t ∈ L) :
    Calls Try.prog 131 #[.agg #[.int .i64 t.p, .slice t.A t.ks.length t.c, .int .i64 t.s], .pointer (some ⟨qb, 0, none⟩)] w fun e w' => e = .returned (.bool (isV t.v x.v)) ∧ Below w.heap.size w w' :=
  clos_any w qb t x h.q (h.kl t ht).arg h.xk.arg
end
abbrev closV (qb : Nat) : Value := .func (.func 131) #[] #[.pointer (some ⟨qb, 0, none⟩)]
/-- How the search ends. -/
def IdxE (w : World) (L : List TkR) (x : ClR) (e : Ending) (w' : World) : Prop :=
  Below w.heap.size w w' ∧ ((e = .returned (.int .i64 (-1)) ∧ ∀ j, j < L.length → isV (L.getD j noTk).v x.v = false) ∨
    ∃ k, k < L.length ∧ e = .returned (.int .i64 (k : Int)) ∧ isV (L.getD k noTk).v x.v = true ∧ ∀ j, j < k → isV (L.getD j noTk).v x.v = false)
set_option maxHeartbeats 1600000 in
theorem idx_any (w : World) (B : Nat) (A : Option Addr) (n c : Nat) (L : List TkR) (x : ClR) (qb : Nat) (h : LdM w B A n c L x qb) (hn : n ≤ 1000000) :
    Calls Try.prog 139 #[.slice A n c, closV qb] w (IdxE w L x) := by
  have hl := h.len
  have HL := Lib.hid hl
  have H := Lib.hid h
  clear h hl
  go_enter Try.func139, Try.ntmps139
  go_wp2
  go_loopw [8] (fun iv wr => ∃ i : Nat, i ≤ n ∧ iv = .int .i64 (i : Int) ∧ Below w.heap.size w wr ∧ ∀ j, j < i → isV (L.getD j noTk).v x.v = false) (fun iv _ => n - (intOf iv).toNat)
  case atStart => exact ⟨0, Nat.zero_le _, rfl, Below.refl _ _, fun j hj => absurd hj (Nat.not_lt_zero _)⟩
  case round =>
    obtain ⟨i, hi, rfl, hb, hno⟩ := hrel
    have HM := Lib.hid (H.out.below hb)
    have HB := Lib.hid hb
    have HN := Lib.hid hno
    have hz := hb.size
    clear hb hno
    rcases Nat.lt_or_ge i n with hlt | hge
    · have hmem : L.getD i noTk ∈ L := tkD_mem (by have := HL.out; omega)
      obtain ⟨b, off, rfl, _, _, hc, _⟩ := HM.out.own.cell (by omega)
      have hf := fun j (hj : j < 3) v (hv : (L.getD i noTk).cells[j]? = some v) => hc (i * 3 + j) v (by rw [FTk_at L i j (by have := HL.out; omega) hj]; exact hv)
      have HC := Lib.hid (HM.out.clos _ hmem)
      obtain ⟨t, htx⟩ : ∃ t, L.getD i noTk = t := ⟨_, rfl⟩
      have HT := Lib.hid htx
      rw [htx] at HC hf
      obtain ⟨r, hr⟩ : ∃ r, isV t.v x.v = r := ⟨_, rfl⟩
      rw [hr] at HC
      have HR := Lib.hid hr
      have e0 : wr.cell? ⟨b, off + i * 3, none⟩ = some (.int .i64 t.p) := hf 0 (by omega) _ rfl
      have e1 : wr.cell? ⟨b, off + i * 3 + 1, none⟩ = some (.slice t.A t.ks.length t.c) := hf 1 (by omega) _ rfl
      have e2 : wr.cell? ⟨b, off + i * 3 + 2, none⟩ = some (.int .i64 t.s) := hf 2 (by omega) _ rfl
      have i0 : (0 : Int) ≤ (i : Int) := by omega
      have i1 : (i : Int) < (n : Int) := by omega
      clear hmem hc hf htx hr
      go_wp2_with fail
      with_reducible refine (HC.out).mono ?_
      rintro e w1 ⟨rfl, hb1⟩
      have HB1 := Lib.hid (HB.out.trans (hb1.mono hz))
      clear hb1 e0 e1 e2
      cases r
      · go_wp2
        go_roundw
        case rel => 
          refine ⟨i + 1, by omega, by push_cast; rfl, HB1.out, fun j hj => ?_⟩
          rcases Nat.lt_or_ge j i with h1 | h1
          · exact HN.out j h1
          · obtain rfl : j = i := by omega
            rw [HT.out]; exact HR.out
        case measure => simp [intOf]; omega
      · go_wp2
        go_ret
        exact ⟨HB1.out, .inr ⟨i, by have := HL.out; omega, rfl, by rw [HT.out]; exact HR.out, HN.out⟩⟩
    · obtain rfl : i = n := by omega
      go_wp2
      go_ret
      exact ⟨HB.out, .inl ⟨rfl, fun j hj => HN.out j (by have := HL.out; omega)⟩⟩
end Go.Proofs.Ytndgladfcogiiaa

/- What a DeleteFunc does to a list of tokens, and its slices and its clear. -/
namespace Go.Proofs.Ytndgladfcogiiaa
open Go.RowKit
set_option maxRecDepth 100000
set_option linter.unusedVariables false

theorem elemL : Try.prog.underlying 154 = some (.slice (Try.prog.elem 154)) := by kernel_rfl
theorem sizeL (w : World) : (sizeOf (Try.prog.elem 154)).run Try.prog w = .ok 3 w := by kernel_rfl
theorem run_fromT (w : World) (b off n c k : Nat) (hk : k < n) (hc : n ≤ c) : (Instr.slice 154 (.slice (some ⟨b, off, none⟩) n c) (some (.int .i64 (k : Int))) none none).run Try.prog w = .ok (.slice (some ⟨b, off + k * 3, none⟩) (n - k) (c - k)) w := by
  rw [run_slice_l (ht := elemL) (h0 := by omega) (h1 := by omega), sizeL]
  have e : ¬ c = k := by omega
  simp [Result.andThen, sliced, add_litV, e]
theorem run_toT (w : World) (b off n c k : Nat) (hk : k < n) (hc : n ≤ c) : (Instr.slice 154 (.slice (some ⟨b, off, none⟩) n c) none (some (.int .i64 (k : Int))) none).run Try.prog w = .ok (.slice (some ⟨b, off, none⟩) k c) w := by
  rw [run_slice_h (ht := elemL) (h0 := by omega) (h2 := by omega), sizeL]
  simp [Result.andThen, sliced, add_litV]
theorem zeroT (w : World) : (zeroValue 24).run Try.prog w = .ok (.agg #[.int .i64 0, .slice none 0 0, .int .i64 0]) w := by kernel_rfl
theorem run_clearT (w : World) (b o n c : Nat) (hn : 0 < n) (hc : ∀ j, j < n * 3 → (w.cell? ⟨b, o + j, none⟩).isSome = true) (hf : ∀ j, j < n * 3 → w.frozen? ⟨b, o + j, none⟩ = false) :
    ∃ zs : List Value, zs.length = n * 3 ∧ ∀ ty, (Builtin.clear_ #[154] ty #[.slice (some ⟨b, o, none⟩) n c]).run Try.prog w = .ok (.tuple #[]) (w.setCells b o zs) := by
  have hzl : (Builtin.zeroCells #[.int .i64 0, .slice none 0 0, .int .i64 0] n).toList.length = n * 3 := by simp [Builtin.zeroCells]
  have hz1 : ∀ v ∈ (Builtin.zeroCells #[.int .i64 0, .slice none 0 0, .int .i64 0] n).toList, v.oneCell' = true := by
    intro v hv
    simp only [Builtin.zeroCells, Array.toList_map, List.mem_map] at hv
    obtain ⟨i, _, rfl⟩ := hv
    have : i % 3 = 0 ∨ i % 3 = 1 ∨ i % 3 = 2 := by omega
    rcases this with h | h | h <;> simp [h, Value.oneCell']
  have hst := run_storeCells_cells (P := Try.prog) b o (Builtin.zeroCells #[.int .i64 0, .slice none 0 0, .int .i64 0] n).toList 0 w (by rw [hzl]; simpa using hc) (by rw [hzl]; simpa using hf) hz1
  simp only [Nat.add_zero] at hst
  refine ⟨_, hzl, fun ty => ?_⟩
  obtain ⟨m, rfl⟩ : ∃ m, n = m + 1 := ⟨n - 1, by omega⟩
  have hcc : (Value.agg #[.int .i64 0, .slice none 0 0, .int .i64 0]).cells = #[.int .i64 0, .slice none 0 0, .int .i64 0] := rfl
  simp [Builtin.clear_, run_underlying Try.underlying154, hcc, hst]
/-- What stands ahead of what is cleared. -/
theorem OwnS.cut {w : World} {B b off n c m : Nat} {vs : List Value} (h : OwnS w B 3 (some ⟨b, off, none⟩) n c vs) (hm : m ≤ n) (zs : List Value) (hz : zs.length = (n - m) * 3) : OwnS (w.setCells b (off + m * 3) zs) B 3 (some ⟨b, off, none⟩) m c (vs.take (m * 3)) := by
  obtain ⟨_, b2, b3, b4, b5⟩ := h.at_ _ rfl
  simp only at b2 b3 b4 b5
  have hl := h.len
  have hle := h.le
  refine ⟨by rw [List.length_take, hl]; omega, by omega, h.cap, (fun e => by cases e), fun a ha => ?_⟩
  injection ha with ha
  subst ha
  refine ⟨rfl, b2, Nat.lt_of_lt_of_le b3 ((Off.refl [b] w).setCells (by simp) zs (off + m * 3)).size, fun j hj => ?_, fun j v hj => ?_⟩
  · show (World.cell? _ ⟨b, off + j, none⟩).isSome = true ∧ World.frozen? _ ⟨b, off + j, none⟩ = false
    refine ⟨?_, by rw [World.frozen?_setCells]; exact (b4 j hj).2⟩
    rcases Nat.lt_or_ge j (m * 3) with g | g
    · rw [World.cell?_setCells_out _ _ _ _ _ (fun _ _ => .inl (by simp; omega))]; exact (b4 j hj).1
    · rcases Nat.lt_or_ge j (n * 3) with g' | g'
      · have := World.cell?_setCells_in b zs (off + m * 3) w (fun i hk => by
          have := (b4 (m * 3 + i) (by omega)).1
          rwa [show off + m * 3 + i = off + (m * 3 + i) by omega]) (j - m * 3) (by omega)
        rw [show off + m * 3 + (j - m * 3) = off + j by omega] at this
        rw [this]; rfl
      · rw [World.cell?_setCells_out _ _ _ _ _ (fun _ _ => .inr (by simp; omega))]; exact (b4 j hj).1
  · show World.cell? _ ⟨b, off + j, none⟩ = _
    have hj' : j < m * 3 := by
      have := (List.getElem?_eq_some_iff.1 hj).1
      rw [List.length_take] at this; omega
    rw [World.cell?_setCells_out _ _ _ _ _ (fun _ _ => .inl (by simp; omega))]
    rw [List.getElem?_take, if_pos hj'] at hj
    exact b5 j v hj
theorem FTk_take (l : List TkR) (m : Nat) : (FTk l).take (m * 3) = FTk (l.take m) := by
  induction l generalizing m with
  | nil => simp [FTk]
  | cons a l ih =>
    cases m with
    | zero => simp [FTk]
    | succ m =>
      rw [FTk_cons, List.take_succ_cons, FTk_cons, ← ih m, List.take_append, TkR.len]
      rw [List.take_of_length_le (by rw [TkR.len]; omega)]
      congr 2
      omega
theorem FTk_put (l : List TkR) (i : Nat) (h : i < l.length) (t : TkR) : (((FTk l).set (i * 3) (.int .i64 t.p)).set (i * 3 + 1) (.slice t.A t.ks.length t.c)).set (i * 3 + 2) (.int .i64 t.s) = FTk (l.set i t) := by
  induction l generalizing i with
  | nil => simp at h
  | cons a l ih =>
    cases i with
    | zero =>
      rw [List.set_cons_zero, FTk_cons, FTk_cons]
      simp [TkR.cells]
    | succ i =>
      have := ih i (by simpa using h)
      rw [List.set_cons_succ, FTk_cons, FTk_cons, ← this]
      rw [List.set_append_right _ _ (by rw [TkR.len]; omega), List.set_append_right _ _ (by rw [TkR.len]; omega), List.set_append_right _ _ (by rw [TkR.len]; omega)]
      have q0 : (i + 1) * 3 - a.cells.length = i * 3 := by rw [TkR.len]; omega
      have q1 : (i + 1) * 3 + 1 - a.cells.length = i * 3 + 1 := by rw [TkR.len]; omega
      have q2 : (i + 1) * 3 + 2 - a.cells.length = i * 3 + 2 := by rw [TkR.len]; omega
      rw [q0, q1, q2]
abbrev putW (w : World) (b o : Nat) (t : TkR) : World := ((w.setCell ⟨b, o, none⟩ (.int .i64 t.p)).setCell ⟨b, o + 1, none⟩ (.slice t.A t.ks.length t.c)).setCell ⟨b, o + 2, none⟩ (.int .i64 t.s)
theorem putOff (w : World) (b o : Nat) (t : TkR) : Off [b] w (putW w b o t) := (((Off.refl _ _).setCell (p := ⟨b, o, none⟩) (by simp) _).setCell (p := ⟨b, o + 1, none⟩) (by simp) _).setCell (p := ⟨b, o + 2, none⟩) (by simp) _
theorem LdM.put {w : World} {B b off n c qb : Nat} {L : List TkR} {x : ClR} (h : LdM w B (some ⟨b, off, none⟩) n c L x qb) (i : Nat) (hi : i < n) (t : TkR) (ht : t ∈ L) : LdM (putW w b (off + i * 3) t) B (some ⟨b, off, none⟩) n c (L.set i t) x qb := by
  have hl := h.len
  have ko : ∀ {A : Option Addr} {c : Nat} {ks : List Nat}, KeyOk w (bkV (some ⟨b, off, none⟩)) A c ks → KeyOk (putW w b (off + i * 3) t) (bkV (some ⟨b, off, none⟩)) A c ks := fun k => k.step (putOff w b (off + i * 3) t) (fun y hy => .inl (by simpa [bkV] using hy)) (fun y hy => .inl hy)
  have hm : ∀ u ∈ L.set i t, u ∈ L := fun u hu => (List.mem_or_eq_of_mem_set hu).elim id (fun e => e ▸ ht)
  refine ⟨?_, fun u hu => ko (h.kl u (hm u hu)), h.q.off (putOff _ _ _ _) (by have := h.qn; simpa [bkV] using this), h.qn, ko h.xk⟩
  rw [← FTk_put L i (by omega) t]
  exact ((h.own.set (i * 3) _ (by omega)).set (i * 3 + 1) _ (by omega)).set (i * 3 + 2) _ (by omega)
/-- How far a DeleteFunc has come. -/
structure DelI (L L2 : List TkR) (f : TkR → Bool) (k j : Nat) : Prop where
  kj : k < j
  jn : j ≤ L.length
  len : L2.length = L.length
  pre : L2.take k = (L.take j).filter (fun t => !f t)
  suf : ∀ i, j ≤ i → i < L.length → L2.getD i noTk = L.getD i noTk
  mem : ∀ t ∈ L2, t ∈ L
section
variable {L L2 : List TkR} {f : TkR → Bool} {k j : Nat}
theorem take_snocT (l : List TkR) (k : Nat) (h : k < l.length) : l.take (k + 1) = l.take k ++ [l.getD k noTk] := by
  rw [List.take_add_one, List.getD_eq_getElem?_getD, List.getElem?_eq_getElem h]; rfl
theorem DelI.start (h : k < L.length) (ht : f (L.getD k noTk) = true) (hb : ∀ j, j < k → f (L.getD j noTk) = false) : DelI L L f k (k + 1) := by
  refine ⟨by omega, by omega, rfl, ?_, fun _ _ _ => rfl, fun _ h => h⟩
  rw [take_snocT L k h, List.filter_append]
  simp only [List.filter_cons, ht, Bool.not_true, Bool.false_eq_true, if_false, List.filter_nil, List.append_nil]
  refine (List.filter_eq_self.2 fun t ht => ?_).symm
  obtain ⟨i, hi, rfl⟩ := List.getElem_of_mem ht
  have hi' : i < k := by simp at hi; omega
  have := hb i hi'
  rw [List.getD_eq_getElem?_getD, List.getElem?_eq_getElem (by omega)] at this
  simp only [List.getElem_take]
  simpa using this
theorem DelI.keep (h : DelI L L2 f k j) (hj : j < L.length) (hf : f (L.getD j noTk) = false) : DelI L (L2.set k (L.getD j noTk)) f (k + 1) (j + 1) := by
  have hk := h.kj
  have hl := h.len
  refine ⟨by omega, by omega, by rw [List.length_set]; exact hl, ?_, fun i h1 h2 => ?_, fun t ht => (List.mem_or_eq_of_mem_set ht).elim (h.mem t) (fun e => e ▸ tkD_mem hj)⟩
  · rw [take_snocT _ k (by rw [List.length_set]; omega), take_snocT L j hj, List.filter_append, ← h.pre]
    simp only [List.filter_cons, hf, Bool.not_false, if_true, List.filter_nil]
    rw [List.take_set_of_le (Nat.le_refl k)]
    congr 2
    rw [List.getD_eq_getElem?_getD, List.getElem?_set_self (by omega)]; rfl
  · rw [← h.suf i (by omega) h2]
    simp only [List.getD_eq_getElem?_getD]
    rw [List.getElem?_set_ne (by omega)]
theorem DelI.skip (h : DelI L L2 f k j) (hj : j < L.length) (hf : f (L.getD j noTk) = true) : DelI L L2 f k (j + 1) := by
  have hk := h.kj
  refine ⟨by omega, by omega, h.len, ?_, fun i h1 h2 => h.suf i (by omega) h2, h.mem⟩
  rw [take_snocT L j hj, List.filter_append, ← h.pre]
  simp only [List.filter_cons, hf, Bool.not_true, Bool.false_eq_true, if_false, List.filter_nil, List.append_nil]
end
end Go.Proofs.Ytndgladfcogiiaa

/- Contract: DeleteFunc over the ledger. -/
namespace Go.Proofs.Ytndgladfcogiiaa
open Go.RowKit
set_option maxRecDepth 100000
set_option linter.unusedVariables false

/-- How DeleteFunc ends. -/
def DelE (w : World) (B : Nat) (A : Option Addr) (c : Nat) (L : List TkR) (x : ClR) (e : Ending) (w' : World) : Prop :=
  ∃ L', L' = L.filter (fun t => !isV t.v x.v) ∧ e = .returned (.slice A L'.length c) ∧ OwnS w' B 3 A L'.length c (FTk L') ∧ Off (bkV A) w w'
/-- The loop that moves what is kept. -/
def DelR (w : World) (B b off n c : Nat) (L : List TkR) (x : ClR) (qb : Nat) (iv jv : Value) (wr : World) : Prop :=
  ∃ (k j : Nat) (L2 : List TkR), iv = .int .i64 (k : Int) ∧ jv = .int .i64 (j : Int) ∧ DelI L L2 (fun t => isV t.v x.v) k j ∧ LdM wr B (some ⟨b, off, none⟩) n c L2 x qb ∧ Off [b] w wr
set_option maxHeartbeats 3200000 in
theorem del_any (w : World) (B : Nat) (A : Option Addr) (n c : Nat) (L : List TkR) (x : ClR) (qb : Nat) (h : LdM w B A n c L x qb) (hn : n ≤ 1000000) :
    Calls Try.prog 130 #[.slice A n c, closV qb] w (DelE w B A c L x) := by
  have HI := Lib.hid (idx_any w B A n c L x qb h hn)
  have hl := h.len
  have HL := Lib.hid hl
  have H := Lib.hid h
  clear h hl
  go_enter Try.func130, Try.ntmps130
  go_wp2_with fail
  with_reducible refine (HI.out).mono ?_
  rintro e w1 ⟨hb, hcase⟩
  rcases hcase with ⟨rfl, hno⟩ | ⟨k0, hk0, rfl, hyes, hbf⟩
  · have HM := Lib.hid (H.out.below hb)
    have HB := Lib.hid hb
    have HN := Lib.hid hno
    clear hb hno
    go_wp2
    go_ret
    have hall : L.filter (fun t => !isV t.v x.v) = L := List.filter_eq_self.2 fun t ht => by
      obtain ⟨i, hi, rfl⟩ := List.getElem_of_mem ht
      have := HN.out i hi
      rw [List.getD_eq_getElem?_getD, List.getElem?_eq_getElem hi] at this
      simpa using this
    refine ⟨L, hall.symm, by rw [HL.out]; rfl, by rw [HL.out]; exact HM.out.own, Off.of_below HB.out⟩
  · have HM := Lib.hid (H.out.below hb)
    obtain ⟨b, off, rfl, _, _, _, _⟩ := HM.out.own.cell (by have := HL.out; omega)
    have HST : Hid (DelR w B b off n c L x qb (.int .i64 (k0 : Int)) (.int .i64 ((k0 + 1 : Nat) : Int)) w1) := Lib.hid ⟨k0, k0 + 1, L, rfl, rfl, DelI.start (f := fun t => isV t.v x.v) hk0 hyes hbf, HM.out, (Off.of_below (S := [b]) hb)⟩
    have kn : k0 < n := by have := HL.out; omega
    have d1 : ((k0 : Int) == -1) = false := beq_eq_false_iff_ne.2 (by omega)
    have hcap := H.out.own.cap
    have hle := H.out.own.le
    unfold maxLen at hcap
    clear hb hyes hbf hk0 HM HI
    go_wp2
    go_loopw [5, 6] (fun iv jv wr => DelR w B b off n c L x qb iv jv wr) (fun iv jv _ => n - (intOf jv).toNat)
    case atStart => have := HST.out; simpa using this
    case round =>
      obtain ⟨k, j, L2, rfl, rfl, hd, hm, hf⟩ := hrel
      have HD := Lib.hid hd
      have HM := Lib.hid hm
      have HF := Lib.hid hf
      have hkj := hd.kj
      have hjn : j ≤ n := by have := hd.jn; have := HL.out; omega
      have hl2 : L2.length = n := hm.len
      have HL2 := Lib.hid hl2
      have hcc := fun i (hi : i < n) q (hq : q < 3) v (hv : (L2.getD i noTk).cells[q]? = some v) => show wr.cell? ⟨b, off + (i * 3 + q), none⟩ = some v from by
        obtain ⟨b', off', e, _, _, hc, _⟩ := hm.own.cell (by omega)
        cases e
        exact hc (i * 3 + q) v (by rw [FTk_at L2 i q (by omega) hq]; exact hv)
      have hfz := fun i (hi : i < n) q (hq : q < 3) => show wr.frozen? ⟨b, off + (i * 3 + q), none⟩ = false from by
        obtain ⟨b', off', e, _, _, _, hz⟩ := hm.own.cell (by omega)
        cases e
        exact hz (i * 3 + q) (by omega)
      have lb : b < wr.heap.size := (hm.own.lt b (by simp [bkV])).2
      clear hd hm hf hl2
      rcases Nat.lt_or_ge j n with hlt | hge
      · have hmem : L2.getD j noTk ∈ L2 := tkD_mem (by have := HL2.out; omega)
        have hsuf := HD.out.suf j (Nat.le_refl _) (by have := HL.out; omega)
        obtain ⟨t, htx⟩ : ∃ t, L2.getD j noTk = t := ⟨_, rfl⟩
        obtain ⟨u, hux⟩ : ∃ u, L2.getD k noTk = u := ⟨_, rfl⟩
        rw [htx] at hmem hsuf
        have cj := hcc j hlt
        have ck := hcc k (by omega)
        have fk := hfz k (by omega)
        rw [htx] at cj
        rw [hux] at ck
        have a0 : wr.cell? ⟨b, off + j * 3, none⟩ = some (.int .i64 t.p) := cj 0 (by omega) _ rfl
        have a1 : wr.cell? ⟨b, off + j * 3 + 1, none⟩ = some (.slice t.A t.ks.length t.c) := cj 1 (by omega) _ rfl
        have a2 : wr.cell? ⟨b, off + j * 3 + 2, none⟩ = some (.int .i64 t.s) := cj 2 (by omega) _ rfl
        have b2 : Below wr.heap.size wr (isW1 wr t) := (Below.refl _ _).alloc (Nat.le_refl _) _
        have HMA := Lib.hid (HM.out.below b2)
        have HC := Lib.hid (HMA.out.clos t hmem)
        have HBA := Lib.hid b2
        have kt := BlkL.new wr t.cells 24
        have HKT := Lib.hid kt
        have c0 := kt.cell 0 _ rfl
        have c1 := kt.cell 1 _ rfl
        have c2 := kt.cell 2 _ rfl
        have lt := kt.lt
        obtain ⟨r, hr⟩ : ∃ r, isV t.v x.v = r := ⟨_, rfl⟩
        rw [hr] at HC
        have HR := Lib.hid hr
        have HT := Lib.hid (And.intro hmem (And.intro hsuf htx))
        have HCK := Lib.hid (And.intro ck fk)
        have j0 : (0 : Int) ≤ (j : Int) := by omega
        have j1 : (j : Int) < (n : Int) := by omega
        have k00 : (0 : Int) ≤ (k : Int) := by omega
        have k01 : (k : Int) < (n : Int) := by omega
        clear hmem hsuf htx hux cj ck fk kt hr b2 hcc hfz
        go_wp2_with fail
        with_reducible refine (HC.out).mono ?_
        rintro e w2 ⟨rfl, hb2⟩
        have hsz : (isW1 wr t).heap.size = wr.heap.size + 1 := by simp
        have hz2 := hb2.size
        have HMB := Lib.hid (HMA.out.below hb2)
        have HFB := Lib.hid (HF.out.trans (Off.of_below (S := [b]) (HBA.out.trans (hb2.mono (by rw [hsz]; omega)))))
        have HKB := HKT.out.below hb2
        have g0 := HKB.cell 0 _ rfl
        have g1 := HKB.cell 1 _ rfl
        have g2 := HKB.cell 2 _ rfl
        have lg := HKB.lt
        have lb2 : b < w2.heap.size := by omega
        have f0 : w2.frozen? ⟨b, off + k * 3, none⟩ = false := by
          obtain ⟨b', off', e, _, _, _, hz⟩ := HMB.out.own.cell (by omega)
          cases e
          exact hz (k * 3) (by omega)
        have f1 : w2.frozen? ⟨b, off + k * 3 + 1, none⟩ = false := by
          obtain ⟨b', off', e, _, _, _, hz⟩ := HMB.out.own.cell (by omega)
          cases e
          exact hz (k * 3 + 1) (by omega)
        have f2 : w2.frozen? ⟨b, off + k * 3 + 2, none⟩ = false := by
          obtain ⟨b', off', e, _, _, _, hz⟩ := HMB.out.own.cell (by omega)
          cases e
          exact hz (k * 3 + 2) (by omega)
        have hcw := fun q (hq : q < 3) v (hv : (L2.getD k noTk).cells[q]? = some v) => show w2.cell? ⟨b, off + (k * 3 + q), none⟩ = some v from by
          obtain ⟨b', off', e, _, _, hc, _⟩ := HMB.out.own.cell (by omega)
          cases e
          exact hc (k * 3 + q) v (by rw [FTk_at L2 k q (by have := HL2.out; omega) hq]; exact hv)
        generalize L2.getD k noTk = u2 at hcw
        have q0 : w2.cell? ⟨b, off + k * 3, none⟩ = some (.int .i64 u2.p) := hcw 0 (by omega) _ rfl
        have q1 : w2.cell? ⟨b, off + k * 3 + 1, none⟩ = some (.slice u2.A u2.ks.length u2.c) := hcw 1 (by omega) _ rfl
        have q2 : w2.cell? ⟨b, off + k * 3 + 2, none⟩ = some (.int .i64 u2.s) := hcw 2 (by omega) _ rfl
        clear hb2 HKB a0 a1 a2 c0 c1 c2 HC hsz hz2 hcw
        cases r
        · have HREL : Hid (DelR w B b off n c L x qb (.int .i64 ((k + 1 : Nat) : Int)) (.int .i64 ((j + 1 : Nat) : Int)) (putW w2 b (off + k * 3) t)) := Lib.hid ⟨k + 1, j + 1, L2.set k t, rfl, rfl, by
              have := HD.out.keep (by have := HL.out; omega) (by rw [← HT.out.2.1]; exact HR.out)
              rw [← HT.out.2.1] at this
              exact this, HMB.out.put k (by omega) t HT.out.1, HFB.out.trans (putOff _ _ _ _)⟩
          go_wp2
          go_roundw
          case rel => have := HREL.out; simpa using this
          case measure => simp [intOf]; omega
        · have HREL : Hid (DelR w B b off n c L x qb (.int .i64 (k : Int)) (.int .i64 ((j + 1 : Nat) : Int)) w2) := Lib.hid ⟨k, j + 1, L2, rfl, rfl, HD.out.skip (by have := HL.out; omega) (by rw [← HT.out.2.1]; exact HR.out), HMB.out, HFB.out⟩
          go_wp2
          go_roundw
          case rel => have := HREL.out; simpa using this
          case measure => simp [intOf]; omega
      · obtain rfl : j = n := by omega
        obtain ⟨zs, hzl, hcl⟩ := run_clearT wr b (off + k * 3) (j - k) (c - k) (by omega) (fun i hi => by
            have := (HM.out.own.at_ _ rfl).2.2.2.1 (k * 3 + i) (by omega)
            rw [show off + k * 3 + i = off + (k * 3 + i) by omega]; exact this.1) (fun i hi => by
            have := (HM.out.own.at_ _ rfl).2.2.2.1 (k * 3 + i) (by omega)
            rw [show off + k * 3 + i = off + (k * 3 + i) by omega]; exact this.2)
        have hsl1 := fun w' => run_fromT w' b off j c k (by omega) (by omega)
        have hsl2 := fun w' => run_toT w' b off j c k (by omega) (by omega)
        have HZ := Lib.hid hzl
        clear hcc hfz hzl
        go_wp2
        go_ret
        have hp := HD.out.pre
        rw [show L.take j = L from List.take_of_length_le (by have := HL.out; omega)] at hp
        have hkl : (L2.take k).length = k := by rw [List.length_take]; have := HL2.out; omega
        have ho := HM.out.own.cut (m := k) (by omega) zs HZ.out
        rw [FTk_take] at ho
        refine ⟨L2.take k, hp, by rw [hkl]; rfl, by rw [hkl]; exact ho, HF.out.trans ((Off.refl [b] wr).setCells (by simp) zs _)⟩
end Go.Proofs.Ytndgladfcogiiaa

/- Contracts: the ledger behind any reply; a reply. -/
namespace Go.Proofs.Ytndgladfcogiiaa
open Go.RowKit
set_option maxRecDepth 100000
set_option linter.unusedVariables false

set_option maxHeartbeats 800000 in
theorem after_any (w : World) (B : Nat) (A : Option Addr) (n c : Nat) (L : List TkR) (h : OwnS w B 3 A n c (FTk L)) (hB : B ≤ w.heap.size) (hn : n ≤ 1000000) (x : ClR) (r : RpV)
    (hk : ∀ t ∈ L, KeyOk w (bkV A) t.A t.c t.ks) (hx : KeyOk w (bkV A) x.A x.c x.ks) :
    Calls Try.prog 113 #[.slice A n c, ClA x.o x.p x.A x.ks.length x.c x.s, r.val] w (AftE w B A L x r.E r.c) := by
  by_cases h3 : r.E ≠ 0 ∨ x.o ≠ 3
  · exact after_no3 w B A n c L h hB hn x r h3
  have hE : r.E = 0 := Classical.byContradiction fun e => h3 (.inl e)
  have h3' : x.o = 3 := Classical.byContradiction fun e => h3 (.inr e)
  have b2 : Below w.heap.size w (aftW w x r) := ((clBl w x.o x.p x.A x.ks.length x.c x.s).alloc (by simp) _)
  have k1 := (clK w x.o x.p x.A x.ks.length x.c x.s).alloc (.cells #[.int .i64 r.E, .bool r.G, .int .i64 r.a, .int .i64 r.b, .int .i64 r.c, .int .i64 r.d] 82)
  have k2 := BlkL.new (clW w x.o x.p x.A x.ks.length x.c x.s) r.cells 82
  rw [show (clW w x.o x.p x.A x.ks.length x.c x.s).heap.size = w.heap.size + 1 by simp] at k2
  have c0 := k1.cell 0 _ rfl
  have lk := k1.lt
  have r0 := k2.cell 0 _ rfl
  have lr := k2.lt
  have hLd : LdM (aftW w x r) B A n c L x w.heap.size := ⟨h.below b2, fun t ht => (hk t ht).step (Off.of_below (S := []) b2) (by simp) (fun y hy => .inl hy), k1, fun hh => by have := (h.lt _ hh).2; omega, hx.step (Off.of_below (S := []) b2) (by simp) (fun y hy => .inl hy)⟩
  have HDL := Lib.hid (del_any (aftW w x r) B A n c L x w.heap.size hLd hn)
  have HB2 := Lib.hid b2
  have e1 : (r.E != 0) = false := by simp [hE]
  have e2 : (((x.o : Nat) : Int) == 2) = false := beq_eq_false_iff_ne.2 (by omega)
  have e3 : (((x.o : Nat) : Int) == 3) = true := by rw [h3']; rfl
  have HE := Lib.hid (And.intro hE h3')
  clear h hk hx k1 k2 b2 hLd hE h3 h3'
  go_enter Try.func113, Try.ntmps113
  go_wp2_with fail
  with_reducible refine (HDL.out).mono ?_
  rintro e w1 ⟨L', hL', rfl, ho, hf⟩
  have HO := Lib.hid ho
  have HF := Lib.hid ((Off.of_below (S := bkV A) HB2.out).trans hf)
  have HL := Lib.hid hL'
  clear ho hf hL'
  go_wp2
  go_ret
  refine ⟨A, c, L', rfl, HO.out, HF.out, fun y hy => .inl hy, ?_, fun t ht => .inl (by rw [HL.out] at ht; exact (List.mem_filter.1 ht).1)⟩
  unfold afterV
  rw [if_neg (by simp [HE.out.1]), if_neg (by rw [show x.v.o = x.o from rfl, HE.out.2]; decide), if_pos (show x.v.o = 3 from HE.out.2), HL.out, List.filter_map]
  rfl
set_option maxHeartbeats 1600000 in
theorem cn_reply_goodR (w : World) (B cb : Nat) (D : CnD) (h : CnM w B cb D) (hB : B ≤ w.heap.size) (r : RpV) (hr : r.ok = true) (q : Nat × ClR) (ho : D.ob = some q) (hn : D.toks.length ≤ 1000000) (hu : D.us.length + 38 ≤ 140737488355328) :
    Calls Try.prog 63 #[.pointer (some ⟨cb, 0, none⟩), r.val] w fun e w' => ∃ A' c' L' A2 c2, CnE w B cb D { D with HA := A', hc := c', toks := L', ob := none, UA := A2, uc := c2, us := usR D r } (.int .i64 0) e w' ∧ L'.map TkR.v = afterV (D.toks.map TkR.v) q.2.v r.E r.c := by
  have HR := Lib.hid (reply_goodF (rpW w r) r hr)
  have k := rpK w r
  have c0 := k.cell 0 _ rfl
  have c1 := k.cell 1 _ rfl
  have c2 := k.cell 2 _ rfl
  have c3 := k.cell 3 _ rfl
  have c4 := k.cell 4 _ rfl
  have c5 := k.cell 5 _ rfl
  have lk := k.lt
  have HK := Lib.hid k
  have HLT0 : ∀ y ∈ D.M cb, y < w.heap.size := fun y hy => (h.lt y hy).2
  have HC := Lib.hid (h.below (rpBl w r))
  have HS := Lib.hid (Stp.of_below (cb := cb) (D := D) (rpBl w r))
  clear k
  go_enter Try.func63, Try.ntmps63
  go_wp2_with fail
  with_reducible refine (HR.out).mono ?_
  rintro e w1 ⟨XA, xc, rfl, ha, hb⟩
  have H1 := Lib.hid (HC.out.below hb)
  have S1 := Lib.hid (HS.out.trans (Stp.of_below hb))
  have HT : Hid (OwnV w1 w.heap.size XA 34 xc (r.bytes.map V8)) := Lib.hid (ha.mono (by simp))
  have HK1 := Lib.hid (HK.out.below hb)
  have b0 := HK1.out.cell 0 _ rfl
  have b1 := HK1.out.cell 1 _ rfl
  have b2 := HK1.out.cell 2 _ rfl
  have b3 := HK1.out.cell 3 _ rfl
  have b4 := HK1.out.cell 4 _ rfl
  have b5 := HK1.out.cell 5 _ rfl
  have lb := HK1.out.lt
  have d3 : w1.cell? ⟨cb, 3, none⟩ = some (.pointer (some ⟨q.1, 0, none⟩)) := by
    have := H1.out.blk.cell 3 _ rfl
    rw [ho] at this
    exact this
  have d6 : w1.cell? ⟨cb, 6, none⟩ = some (.slice D.HA D.toks.length D.hc) := H1.out.blk.cell 6 _ rfl
  have f6 := H1.out.blk.froz 6 (by simp [CnD.cells])
  have ld := H1.out.blk.lt
  obtain ⟨o1, o2, o3, o4⟩ := H1.out.out q ho
  have q0 : w1.cell? ⟨q.1, 0, none⟩ = some (.int .u8 q.2.o) := o1.cell 0 _ rfl
  have q1 : w1.cell? ⟨q.1, 1, none⟩ = some (.int .i64 q.2.p) := o1.cell 1 _ rfl
  have q2 : w1.cell? ⟨q.1, 2, none⟩ = some (.slice q.2.A q.2.ks.length q.2.c) := o1.cell 2 _ rfl
  have q3 : w1.cell? ⟨q.1, 3, none⟩ = some (.int .i64 q.2.s) := o1.cell 3 _ rfl
  have lq := o1.lt
  have hz1 := hb.size
  simp only [World.size_alloc] at hz1
  have HAF := Lib.hid (after_any w1.drew B D.HA D.toks.length D.hc D.toks ((H1.out.held.below ((Below.refl _ _).drew))) (by simp; omega) hn q.2 r
    (fun t ht => (H1.out.kh t ht).step (Off.of_below (S := []) (Below.refl _ _).drew) (by simp) (fun y hy => .inl (by simp [CnD.M, hy])))
    (o4.step (Off.of_below (S := []) (Below.refl _ _).drew) (by simp) (fun y hy => .inl (by simp [CnD.M, hy]))))
  clear hb ha HR HC HS HK h c0 c1 c2 c3 c4 c5 lk o1 o2 o3 o4
  have HD := Lib.hid (H1.out.below (Below.refl _ _).drew)
  have HSD := Lib.hid (S1.out.trans (Stp.of_below (cb := cb) (D := D) (Below.refl w1.heap.size w1).drew))
  have HLT : Hid (∀ y ∈ D.M cb, y < w.heap.size) := Lib.hid HLT0
  clear HLT0
  go_upto_region 6 with (fail)
  go_cut [] (fun wx => RpS w B cb D q r XA xc wx)
  case first =>
    go_region_with (first | (go_at_call 113; refine (HAF.out).mono ?_; rintro e w2 ⟨A', c', L', rfl, hown, hf, hbk, hv, hk⟩; have g6 := (HD.out.blk.off hf HD.out.dj.cH).cell 6 _ rfl; have gf6 := (HD.out.blk.off hf HD.out.dj.cH).froz 6 (by simp [CnD.cells]); have gl := (HD.out.blk.off hf HD.out.dj.cH).lt))
    all_goals
      go_wp2_with fail
      go_meet
      exact rp_mid HD.out HSD.out HLT.out ho (HT.out.below (Below.refl _ _).drew) hown hf hbk hv hk
  case rest =>
    obtain ⟨A1, c1, L1, h2, s2, hv2, ht2, hn2⟩ := hcut
    have H2 := Lib.hid h2
    have S2 := Lib.hid s2
    have HV2 := Lib.hid hv2
    have HT2 := Lib.hid ht2
    have HN2 := Lib.hid hn2
    have g3 : wc.cell? ⟨cb, 3, none⟩ = some (.pointer (some ⟨q.1, 0, none⟩)) := by
      have := h2.blk.cell 3 _ rfl
      rw [show (D.led A1 c1 L1).ob = some q from ho] at this
      exact this
    have gf3 := h2.blk.froz 3 (by simp [CnD.cells])
    have g4 : wc.cell? ⟨cb, 4, none⟩ = some (.bool D.cl) := h2.blk.cell 4 _ rfl
    have gl := h2.blk.lt
    have fo : Off [cb] wc (wc.setCell ⟨cb, 3, none⟩ (.pointer none)) := (Off.refl _ _).setCell (p := ⟨cb, 3, none⟩) (by simp) _
    have hb := h2.blk.set 3 (.pointer none) (by simp [CnD.cells])
    have hr3 := h2.upd (D' := { D.led A1 c1 L1 with ob := none }) fo hb ⟨.inr ⟨rfl, rfl, rfl, rfl, rfl, rfl⟩, .inr ⟨rfl, rfl, rfl⟩, .inl rfl, .inr ⟨rfl, rfl, rfl⟩, rfl, rfl, rfl⟩
    have H3 := Lib.hid hr3.1
    have S3 := Lib.hid (S2.out.trans hr3.2)
    have HT3 := Lib.hid (HT2.out.off fo (fun y hy hh => by simp at hh; subst hh; exact HN2.out y hy (by simp [CnD.M])))
    have HBX := Lib.hid (HT3.out.arg' (rp_byte hr))
    clear h2 s2 hv2 ht2 hn2 hb hr3 fo HT2 HN2 H2 S2
    cases hcl : D.cl with
    | true =>
      rw [hcl] at g4
      have HCL := Lib.hid hcl
      clear hcl
      go_wp2
      go_ret
      refine ⟨A1, c1, L1, ⟨D.UA, D.uc, rfl, ?_, ?_⟩, HV2.out⟩
      · rw [show usR D r = D.us from if_pos HCL.out]; exact H3.out
      · rw [show usR D r = D.us from if_pos HCL.out]; exact S3.out
    | false =>
      rw [hcl] at g4
      have HCL := Lib.hid hcl
      clear hcl
      have HW := Lib.hid (cn_write _ B cb _ H3.out (by have := S3.out.off.size; simp at this ⊢; omega) XA 34 xc r.bytes HBX.out (by omega) (by omega) (by show D.us.length + (34 + 4) ≤ _; omega))
      go_wp2_with fail
      with_reducible refine (HW.out).mono ?_
      rintro e w4 ⟨A2, c2, rfl, h4, s4⟩
      have H4 := Lib.hid h4
      have S4 := Lib.hid (S3.out.trans s4)
      clear h4 s4 HW
      go_wp2
      go_ret
      have hno : ¬ D.cl = true := by rw [HCL.out]; simp
      refine ⟨A1, c1, L1, A2, c2, ⟨rfl, ?_, ?_⟩, HV2.out⟩
      · rw [show usR D r = D.us ++ Fr.encV r.bytes from if_neg hno]; exact H4.out
      · rw [show usR D r = D.us ++ Fr.encV r.bytes from if_neg hno]; exact S4.out
section
variable {w : World} {B cb : Nat} {D : CnD}
theorem ab_replyR (h : CnM w B cb D) (hB : B ≤ w.heap.size) (r : RpV) (hr : r.ok = true) (q : Nat × ClR) (x : ClV) (ho : D.ob = some q) (hq : q.2.v = x) (hn : D.toks.length ≤ 1000000) (us' : List Nat) (hu : us' = if D.cl then D.us else D.us ++ Fr.encV r.bytes) (ts' : List TkV) (ht : ts' = afterV (D.toks.map TkR.v) x r.E r.c) (hul : D.us.length + 38 ≤ 140737488355328) :
    Calls Try.prog 63 #[.pointer (some ⟨cb, 0, none⟩), r.val] w fun e w' => ∃ D', e = .returned (.int .i64 0) ∧ CnM w' B cb D' ∧ Stp w w' cb D D' ∧ D'.ob = none ∧ D'.us = us' ∧ D'.toks.map TkR.v = ts' ∧ D'.rows = D.rows ∧ Kept D D' := by
  subst hq
  refine (cn_reply_goodR w B cb D h hB r hr q ho hn hul).mono ?_
  rintro e w' ⟨A', c', L', A2, c2, ⟨he, hc, hs⟩, hv⟩
  exact ⟨_, he, hc, hs, rfl, by rw [hu]; rfl, by rw [ht]; exact hv, rfl, ⟨rfl, rfl, rfl, rfl, rfl⟩⟩
end
end Go.Proofs.Ytndgladfcogiiaa

/- Contract: Next at the end of the line. -/
namespace Go.Proofs.Ytndgladfcogiiaa
open Go.RowKit
set_option maxRecDepth 100000
set_option linter.unusedVariables false

abbrev CnD.endD (D : CnD) (A : Option Addr) (c : Nat) (us : List Nat) : CnD := { D with UA := A, uc := c, us := us, rb := none, LA := none, lc := 0, rows := [], fin := 0, cl := true }
set_option maxHeartbeats 1600000 in
theorem cn_next_end (w : World) (B cb : Nat) (D : CnD) (h : CnM w B cb D) (hB : B ≤ w.heap.size) (ho : D.ob = none) (hcl : D.cl = false) (hr : D.rows = []) (f : Int) (hf : D.fin = f) (f0 : 0 < f) (f1 : f ≤ 16) (hu : D.us.length + 38 ≤ 140737488355328) : Calls Try.prog 62 #[.pointer (some ⟨cb, 0, none⟩)] w fun e w' =>
    ∃ A' c', e = .returned (.tuple #[ClA 0 0 none 0 0 0, .int .i64 13]) ∧ CnM w' B cb (D.endD A' c' (D.us ++ Fr.encV (RpV.bytes ⟨f, false, 0, 0, 0, 0⟩))) ∧ Stp w w' cb D (D.endD A' c' (D.us ++ Fr.encV (RpV.bytes ⟨f, false, 0, 0, 0, 0⟩))) := by
  have hok : RpV.ok ⟨f, false, 0, 0, 0, 0⟩ = true := by simp [RpV.ok, RpV.eB, tkB]; omega
  have HC := Lib.hid (h.below (clBl w 0 0 none 0 0 0))
  have HB0 := Lib.hid (clBl w 0 0 none 0 0 0)
  have c1 : (zW w).cell? ⟨cb, 1, none⟩ = some (.slice D.LA D.rows.length D.lc) := HC.out.blk.cell 1 _ rfl
  have c2 : (zW w).cell? ⟨cb, 2, none⟩ = some (.int .i64 D.fin) := HC.out.blk.cell 2 _ rfl
  have c4 : (zW w).cell? ⟨cb, 4, none⟩ = some (.bool D.cl) := HC.out.blk.cell 4 _ rfl
  have lc := HC.out.blk.lt
  have c3 : (zW w).cell? ⟨cb, 3, none⟩ = some (.pointer none) := by
    have := HC.out.blk.cell 3 _ rfl
    rw [ho] at this; exact this
  rw [hcl] at c4
  have hl0 : D.rows.length = 0 := by rw [hr]; rfl
  rw [hl0] at c1
  rw [hf] at c2
  have g1 : (f != 0) = true := by simp; omega
  have HRP := Lib.hid (reply_goodF (zW w) ⟨f, false, 0, 0, 0, 0⟩ hok)
  have HS := Lib.hid (Stp.of_below (cb := cb) (D := D) HB0.out)
  have K0 := Lib.hid (clK w 0 0 none 0 0 0)
  have HMLT := Lib.hid (fun y hy => (h.lt y hy).2)
  have HRLT := Lib.hid (fun y hy => (h.ltR y hy).1)
  have HOK := Lib.hid hok
  clear hl0 h hok
  go_enter Try.func62, Try.ntmps62
  go_wp2_with fail
  with_reducible refine (HRP.out).mono ?_
  rintro e w1 ⟨XA, xc, rfl, hox, hb1⟩
  have H1 := Lib.hid (HC.out.below hb1)
  have S1 := Lib.hid (HS.out.trans (Stp.of_below hb1))
  have K1 := Lib.hid (K0.out.below hb1)
  have hz1 := hb1.size
  have HBX := Lib.hid (hox.arg' (rp_byte HOK.out))
  have HW := Lib.hid (cn_write w1 B cb D H1.out (by simp at hz1; omega) XA 34 xc _ HBX.out (by omega) (by omega) (by omega))
  clear hox hb1 HRP HC HS K0 c1 c2 c3 c4 lc
  go_wp2_with fail
  with_reducible refine (HW.out).mono ?_
  rintro e w2 ⟨A2, c2', rfl, h2, s2⟩
  have H2 := Lib.hid h2
  have S2 := Lib.hid (S1.out.trans s2)
  have hwM : w.heap.size ∉ D.M cb := fun hh => by have := HMLT.out _ hh; omega
  have hwR : w.heap.size ∉ D.R := fun hh => by have := HRLT.out _ hh; omega
  have K2 := Lib.hid (K1.out.off s2.off hwM)
  have HCL := Lib.hid (cn_close w2 B cb _ h2)
  have hnM2 : w.heap.size ∉ ({ D with UA := A2, uc := c2', us := D.us ++ Fr.encV (RpV.bytes ⟨f, false, 0, 0, 0, 0⟩) } : CnD).M cb := fun hh => (s2.m _ hh).elim hwM (fun h => by simp at hz1; omega)
  have HNM := Lib.hid (And.intro hwM (And.intro hwR hnM2))
  clear h2 s2 hwM hwR hnM2 HW H1 S1 K1 HBX
  go_wp2_with fail
  with_reducible refine (HCL.out).mono ?_
  rintro e w3 ⟨rfl, h3, s3⟩
  have H3 := Lib.hid h3
  have S3 := Lib.hid (S2.out.trans s3)
  have hk3 := K2.out.off s3.off HNM.out.2.2
  have K3 := Lib.hid hk3
  have r0 := hk3.cell 0 _ rfl
  have r1 := hk3.cell 1 _ rfl
  have r2 := hk3.cell 2 _ rfl
  have r3 := hk3.cell 3 _ rfl
  have rf0 := hk3.froz 0 (by simp)
  have rf1 := hk3.froz 1 (by simp)
  have rf2 := hk3.froz 2 (by simp)
  have rf3 := hk3.froz 3 (by simp)
  have rl := hk3.lt
  have HLT2 : Hid (w2.heap.size ≤ w3.heap.size) := Lib.hid s3.off.size
  have hs3m := s3.m
  have hs3r := s3.r
  have hnM3 : w.heap.size ∉ (D.endD A2 c2' (D.us ++ Fr.encV (RpV.bytes ⟨f, false, 0, 0, 0, 0⟩))).M cb := fun hh => (S3.out.m _ hh).elim HNM.out.1 (fun h => (s3.m _ hh).elim HNM.out.2.2 (fun h => by have := K2.out.lt; omega))
  have hnR3 : w.heap.size ∉ (D.endD A2 c2' (D.us ++ Fr.encV (RpV.bytes ⟨f, false, 0, 0, 0, 0⟩))).R := fun hh => HNM.out.2.1 (by
    simp only [CnD.R, List.mem_append, List.mem_flatMap] at hh ⊢
    rcases hh with hh | hh | hh
    · exact .inl hh
    · obtain ⟨r, hr, _⟩ := hh; exact absurd hr (by simp)
    · exact .inr (.inr hh))
  have HN3 := Lib.hid (And.intro hnM3 hnR3)
  clear h3 s3 hk3 hs3m hs3r hnM3 hnR3 HCL H2 S2 K2
  go_wp2
  have f8 : Off [w.heap.size] w3 (put4w w3 w.heap.size 0 0 (.slice none 0 0) 0) := ((((Off.refl _ _).setCell (p := ⟨w.heap.size, 0, none⟩) (by simp) _).setCell (p := ⟨w.heap.size, 1, none⟩) (by simp) _).setCell (p := ⟨w.heap.size, 2, none⟩) (by simp) _).setCell (p := ⟨w.heap.size, 3, none⟩) (by simp) _
  have hk2 := K3.out.put4 (.int .u8 0) (.int .i64 0) (.slice none 0 0) (.int .i64 0)
  have H8 := H3.out.off f8 (fun y hy hh => by simp at hh; subst hh; exact HN3.out.1 hy) (fun y hy hh => by simp at hh; subst hh; exact HN3.out.2 hy)
  exact nx_ret _ hk2 rfl rfl ⟨A2, c2', rfl, H8, ⟨S3.out.off.new f8 (fun y hy => by simp at hy; exact .inr (by omega)), S3.out.m, S3.out.r⟩⟩
end Go.Proofs.Ytndgladfcogiiaa

/- A connection that is fed in pieces. -/
namespace Go.Proofs.Ytndgladfcogiiaa
open Go.RowKit
set_option maxRecDepth 100000
set_option linter.unusedVariables false

theorem fr_pre (P T : List Nat) : ∀ p ∈ (Fr.frV P).1, p ∈ (Fr.frV (P ++ T)).1 := by
  intro p hp
  cases hb : (Fr.frV P).2.2 with
  | false => rw [Fr.fr_app P T hb]; exact List.mem_append_left _ hp
  | true => rw [Fr.fr_app_bad P T hb]; exact hp
theorem fr_pre_len (P T : List Nat) : (Fr.frV P).1.length ≤ (Fr.frV (P ++ T)).1.length := by
  cases hb : (Fr.frV P).2.2 with
  | false => rw [Fr.fr_app P T hb]; simp
  | true => rw [Fr.fr_app_bad P T hb]; exact Nat.le_refl _
/-- What was fed. -/
structure OrD (rb : Nat) (D : CnD) (P : List Nat) : Prop where
  rows : D.rows.map ClR.v = (Fr.frV P).1.map fun p => (rqV p).1
  fin : D.fin = if (Fr.frV P).2.2 then 12 else 0
  open_ : (Fr.frV P).2.2 = false → D.rb = some rb ∧ D.ws = (Fr.frV P).2.1 ∧ D.rc = false
  cl : D.cl = false
  ob : D.ob = none
  us : D.us = []
  toks : D.toks = []
theorem OrD.new (rb : Nat) : OrD rb (CnD.new rb) [] := by
  have e : Fr.frV [] = ([], [], false) := Fr.fr_nil
  exact ⟨by rw [e]; rfl, by rw [e]; rfl, fun _ => ⟨rfl, by rw [e]; rfl, rfl⟩, rfl, rfl, rfl, rfl⟩
theorem ord_feed (w : World) (B cb rb : Nat) (D : CnD) (P q T all : List Nat) (h : CnM w B cb D) (hB : B ≤ w.heap.size) (hd : OrD rb D P) (hall : all = (P ++ q) ++ T) (hg : ∀ p ∈ (Fr.frV all).1, (rqV p).2 = 0) (hl : (Fr.frV all).1.length ≤ 1000) (hal : all.length ≤ 211106232532992)
    (S : Option Addr) (m d : Nat) (ha : Arg w w.heap.size S m d q) :
    Calls Try.prog 61 #[.pointer (some ⟨cb, 0, none⟩), .slice S m d] w fun e w' => ∃ D' f, e = .returned (.int .i64 f) ∧ (f = 0 ∨ f = 13) ∧ CnM w' B cb D' ∧ Stp w w' cb D D' ∧ OrD rb D' (P ++ q) := by
  cases hb : (Fr.frV P).2.2 with
  | true =>
    have hf : D.fin = 12 := by rw [hd.fin, hb]; rfl
    refine (cn_feed_shut w B cb D h (.slice S m d) (.inr (by rw [hf]; decide))).mono ?_
    rintro e w' ⟨rfl, rfl⟩
    have e1 := Fr.fr_app_bad P q hb
    exact ⟨D, 13, rfl, .inr rfl, h, Stp.refl _ _ _, ⟨by rw [e1]; exact hd.rows, by rw [e1]; exact hf, (fun hh => by rw [e1] at hh; cases hh), hd.cl, hd.ob, hd.us, hd.toks⟩⟩
  | false =>
    obtain ⟨o1, o2, o3⟩ := hd.open_ hb
    have hf : D.fin = 0 := by rw [hd.fin, hb]; rfl
    have e1 := Fr.fr_app P q hb
    have hgq : ∀ p ∈ (Fr.frV (D.ws ++ q)).1, (rqV p).2 = 0 := fun p hp => by
      refine hg p ?_
      rw [hall]
      refine fr_pre _ T p ?_
      rw [e1, ← o2]
      exact List.mem_append_right _ hp
    have e2 := gath_good _ hgq
    have hlq : (Fr.frV (P ++ q)).1.length ≤ 1000 := Nat.le_trans (by rw [hall]; exact fr_pre_len _ T) hl
    have hlen : (Fr.frV P).1.length + (Fr.frV (D.ws ++ q)).1.length ≤ 1000 := by
      have : (Fr.frV (P ++ q)).1.length = (Fr.frV P).1.length + (Fr.frV (D.ws ++ q)).1.length := by rw [e1, o2]; simp
      omega
    have hrl : D.rows.length = (Fr.frV P).1.length := by have := congrArg List.length hd.rows; simpa using this
    have hwl : D.ws.length ≤ P.length := by obtain ⟨k, hk, e⟩ := Fr.fr_rest P; rw [o2, e, List.length_drop]; omega
    have hql := ha.len
    refine (ab_feed w B cb D h hB rb o1 o3 hd.cl hf S m d q ha _ rfl _ rfl (by rw [hall] at hal; simp only [List.length_append] at hal; omega) (by omega)).mono ?_
    rintro e w' ⟨D', rfl, hc, hs, hv, hfi, h0, hob, hcl, hus, htk⟩
    have g1 : (fdV D.ws q).1 = (Fr.frV (D.ws ++ q)).1.map fun p => (rqV p).1 := by unfold fdV; rw [e2]
    have g2 : (fdV D.ws q).2 = if (Fr.frV (D.ws ++ q)).2.2 then 12 else 0 := by unfold fdV; rw [e2]; simp
    refine ⟨D', 0, rfl, .inl rfl, hc, hs, ⟨?_, ?_, fun hh => ?_, hcl.trans hd.cl, hob.trans hd.ob, hus.trans hd.us, htk.trans hd.toks⟩⟩
    · rw [hv, hd.rows, g1, e1, ← o2, List.map_append]
    · rw [hfi, g2, e1, ← o2]
    · rw [e1, ← o2] at hh
      obtain ⟨k1, k2, k3⟩ := h0 (by rw [g2, hh]; rfl)
      exact ⟨k1, by rw [k2, e1, ← o2], k3⟩
end Go.Proofs.Ytndgladfcogiiaa



/- The law ConnOrder: a connection, and blocks of the law's own that lie apart from it. -/
namespace Go.Proofs.Ytndgladfcogiiaa
open Go.RowKit
set_option maxRecDepth 100000
set_option linter.unusedVariables false

structure OrC (u w : World) (B cb : Nat) (D : CnD) (X : List Nat) : Prop where
  cn : CnM w B cb D
  hB : B ≤ w.heap.size
  bw : Below u.heap.size u w
  uB : u.heap.size ≤ B
  xm : ∀ y ∈ X, y < w.heap.size ∧ B ≤ y ∧ y ∉ D.M cb ∧ y ∉ D.R
section
variable {u w w' : World} {B cb : Nat} {D D' : CnD} {X X' S : List Nat}
theorem OrC.stp (h : OrC u w B cb D X) (hc : CnM w' B cb D') (hs : Stp w w' cb D D') : OrC u w' B cb D' X :=
  ⟨hc, Nat.le_trans h.hB hs.off.size, h.bw.trans ((hs.below h.cn h.hB).mono h.uB), h.uB, fun y hy => by
    obtain ⟨h1, h2, h3, h4⟩ := h.xm y hy
    exact ⟨Nat.lt_of_lt_of_le h1 hs.off.size, h2, fun hm => (hs.m y hm).elim h3 (fun e => by omega), fun hm => (hs.r y hm).elim h4 (fun e => by omega)⟩⟩
theorem OrC.below (h : OrC u w B cb D X) (hb : Below w.heap.size w w') : OrC u w' B cb D X := h.stp (h.cn.below hb) (Stp.of_below hb)
/-- Own blocks change, and new ones come. -/
theorem OrC.grow (h : OrC u w B cb D X) (hf : Off S w w') (hS : ∀ y ∈ S, y ∈ X) (hX : ∀ y ∈ X', y ∈ X ∨ w.heap.size ≤ y ∧ y < w'.heap.size) : OrC u w' B cb D X' := by
  have hb : Below u.heap.size w w' := (hf.below (B := B) h.hB (fun y hy => (h.xm y (hS y hy)).2.1)).mono h.uB
  refine ⟨h.cn.off hf (fun y hy hs => (h.xm y (hS y hs)).2.2.1 hy) (fun y hy hs => (h.xm y (hS y hs)).2.2.2 hy), Nat.le_trans h.hB hf.size, h.bw.trans hb, h.uB, fun y hy => ?_⟩
  rcases hX y hy with e | ⟨e1, e2⟩
  · obtain ⟨h1, h2, h3, h4⟩ := h.xm y e
    exact ⟨Nat.lt_of_lt_of_le h1 hf.size, h2, h3, h4⟩
  · exact ⟨e2, Nat.le_trans h.hB e1, fun hm => by have := (h.cn.lt y hm).2; omega, fun hm => by have := (h.cn.ltR y hm).1; omega⟩
theorem OrC.sub (h : OrC u w B cb D X) (hX : ∀ y ∈ X', y ∈ X) : OrC u w B cb D X' := ⟨h.cn, h.hB, h.bw, h.uB, fun y hy => h.xm y (hX y hy)⟩
/-- An own list stays through a call of the connection. -/
theorem OrC.keepV {A : Option Addr} {n c : Nat} {vs : List Value} (h : OrC u w B cb D X) (ho : OwnV w B A n c vs) (hA : ∀ y ∈ bkV A, y ∈ X) (hs : Stp w w' cb D D') : OwnV w' B A n c vs := ho.off hs.off (fun y hy => (h.xm y (hA y hy)).2.2.1)
theorem OrC.keepS {A : Option Addr} {k n c : Nat} {vs : List Value} (h : OrC u w B cb D X) (ho : OwnS w B k A n c vs) (hA : ∀ y ∈ bkV A, y ∈ X) (hs : Stp w w' cb D D') : OwnS w' B k A n c vs := ho.off hs.off (fun y hy => (h.xm y (hA y hy)).2.2.1)
theorem OrC.keepB {p : Nat} {vs : List Value} (h : OrC u w B cb D X) (ho : BlkL w p vs) (hp : p ∈ X) (hs : Stp w w' cb D D') : BlkL w' p vs := ho.off hs.off (h.xm p hp).2.2.1
/-- A connection that answers, in its line what is left of what was sent. -/
structure OrE (D : CnD) (xs : List ClV) : Prop where
  rows : D.rows.map ClR.v = xs
  fin : D.fin = 12
  cl : D.cl = false
  ob : D.ob = none
  tl : D.toks.length ≤ 1000
theorem OrC.next (h : OrC u w B cb D X) (x : ClV) (xs : List ClV) (hd : OrE D (x :: xs)) (m : Nat) (hm : x.ks.length = m) (hm2 : m ≤ 255) :
    Calls Try.prog 62 #[.pointer (some ⟨cb, 0, none⟩)] w fun e w' => ∃ KB kc D' q, e = .returned (.tuple #[ClA x.o x.p KB m kc x.s, .int .i64 0]) ∧ OrC u w' B cb D' X ∧ Stp w w' cb D D' ∧ D'.ob = some q ∧ q.2.v = x ∧ D'.rows.map ClR.v = xs ∧ D'.fin = 12 ∧ D'.cl = false ∧ D'.us = D.us ∧ D'.toks = D.toks := by
  refine (ab_next w B cb D h.cn h.hB hd.ob hd.cl x xs hd.rows (by omega) m hm).mono ?_
  rintro e w' ⟨KB, kc, D', q, he, _, hc, hst, ho, hq, hr, hk, hu, ht⟩
  exact ⟨KB, kc, D', q, he, h.stp hc hst, hst, ho, hq, hr, hk.fin.trans hd.fin, hk.cl.trans hd.cl, hu, ht⟩
end
theorem afterV_len (l : List TkV) (x : ClV) (E s : Int) : (afterV l x E s).length ≤ l.length + 1 := by
  unfold afterV
  split
  · omega
  · split
    · simp
    · split
      · exact Nat.le_trans (List.length_filter_le _ _) (by omega)
      · omega
section
variable {u w : World} {B cb : Nat} {D : CnD} {X : List Nat}
theorem OrC.reply (h : OrC u w B cb D X) (q : Nat × ClR) (hob : D.ob = some q) (xs : List ClV) (hrow : D.rows.map ClR.v = xs) (hfin : D.fin = 12) (hcl : D.cl = false) (r : RpV) (hr : r.ok = true) (k : Nat) (hk : D.toks.length ≤ k) (hk2 : k ≤ 900) (hu : D.us.length ≤ 100000) :
    Calls Try.prog 63 #[.pointer (some ⟨cb, 0, none⟩), r.val] w fun e w' => ∃ D', e = .returned (.int .i64 0) ∧ OrC u w' B cb D' X ∧ Stp w w' cb D D' ∧ OrE D' xs ∧ D'.us = D.us ++ Fr.encV r.bytes ∧ D'.toks.length ≤ k + 1 := by
  refine (ab_replyR h.cn h.hB r hr q _ hob rfl (by omega) _ rfl _ rfl (by omega)).mono ?_
  rintro e w' ⟨D', he, hc, hst, ho, hus, htt, hro, hkk⟩
  have hl : D'.toks.length ≤ k + 1 := by
    have e1 := congrArg List.length htt
    rw [List.length_map] at e1
    have e2 := afterV_len (D.toks.map TkR.v) q.2.v r.E r.c
    rw [List.length_map] at e2
    omega
  exact ⟨D', he, h.stp hc hst, hst, ⟨by rw [hro]; exact hrow, hkk.fin.trans hfin, hkk.cl.trans hcl, ho, by omega⟩, by rw [hus, hcl]; rfl, hl⟩
theorem OrC.end_ (h : OrC u w B cb D X) (hd : OrE D []) (hu : D.us.length ≤ 100000) : Calls Try.prog 62 #[.pointer (some ⟨cb, 0, none⟩)] w fun e w' =>
    ∃ D', e = .returned (.tuple #[ClA 0 0 none 0 0 0, .int .i64 13]) ∧ OrC u w' B cb D' X ∧ Stp w w' cb D D' ∧ D'.us = D.us ++ Fr.encV (RpV.bytes ⟨12, false, 0, 0, 0, 0⟩) ∧ D'.cl = true ∧ D'.ob = none := by
  refine (cn_next_end w B cb D h.cn h.hB hd.ob hd.cl (by simpa using hd.rows) 12 hd.fin (by omega) (by omega) (by omega)).mono ?_
  rintro e w' ⟨A', c', he, hc, hst⟩
  exact ⟨_, he, h.stp hc hst, hst, rfl, rfl, hd.ob⟩
theorem OrC.feed {rb : Nat} {P q T all : List Nat} (h : OrC u w B cb D X) (hd : OrD rb D P) (hall : all = (P ++ q) ++ T) (hg : ∀ p ∈ (Fr.frV all).1, (rqV p).2 = 0) (hl : (Fr.frV all).1.length ≤ 1000) (hal : all.length ≤ 211106232532992) (S : Option Addr) (m d : Nat) (ha : Arg w w.heap.size S m d q) :
    Calls Try.prog 61 #[.pointer (some ⟨cb, 0, none⟩), .slice S m d] w fun e w' => ∃ D' f, e = .returned (.int .i64 f) ∧ (f = 0 ∨ f = 13) ∧ OrC u w' B cb D' X ∧ Stp w w' cb D D' ∧ OrD rb D' (P ++ q) := by
  refine (ord_feed w B cb rb D P q T all h.cn h.hB hd hall hg hl hal S m d ha).mono ?_
  rintro e w' ⟨D', f, he, hf, hc, hst, ho⟩
  exact ⟨D', f, he, hf, h.stp hc hst, hst, ho⟩
end
/-- The whole of what is sent is told. -/
theorem ord_all (rb : Nat) (D : CnD) (ls : List ClV) (rest : List Nat) (hok : ∀ x ∈ ls, rqC x.o x.p x.s x.ks.length = 0) (hd : OrD rb D ((ls.map rqF).flatten ++ ([0, 0, 0, 0] ++ rest))) : OrE D (ls.map usedV) ∧ D.us = [] ∧ D.toks = [] := by
  have e1 : ls.map rqF = (ls.map fun x => rqB x.o x.p x.s x.ks).map Fr.encV := by
    rw [List.map_map]
    refine List.map_congr_left fun x hx => ?_
    simp only [Function.comp, rqF, hok x hx, if_true]
  have e2 : Fr.frV ([0, 0, 0, 0] ++ rest) = ([], [0, 0, 0, 0] ++ rest, true) := Fr.fr_word_bad 0 (by omega) (by omega) rest
  have e3 := Fr.fr_encs (ls.map fun x => rqB x.o x.p x.s x.ks) ([0, 0, 0, 0] ++ rest) (fun p hp => by
    obtain ⟨x, hx, rfl⟩ := List.mem_map.1 hp
    exact ⟨(rq_min (hok x hx)).1, rqB_max (hok x hx)⟩)
  rw [← e1, e2, List.append_nil] at e3
  refine ⟨⟨?_, by rw [hd.fin, e3]; rfl, hd.cl, hd.ob, by rw [hd.toks]; simp⟩, hd.us, hd.toks⟩
  rw [hd.rows, e3, List.map_map]
  refine List.map_congr_left fun x hx => ?_
  obtain ⟨o, p, s, ks⟩ := x
  have := rqV_self (hok _ hx)
  simp only [Function.comp]
  rw [this]
end Go.Proofs.Ytndgladfcogiiaa


/- The law ConnOrder: its walk. -/
namespace Go.Proofs.Ytndgladfcogiiaa
open Go.RowKit
set_option maxRecDepth 100000
set_option linter.unusedVariables false

def sntT (l : List ClR) : List ClR := l.filter fun r => decide (rqC r.o r.p r.s r.ks.length = 0)
def allT (l : List ClR) : List Nat := ((l.map ClR.v).map rqF).flatten
theorem allT_app (l : List ClR) (x : ClR) : allT (l ++ [x]) = allT l ++ rqF x.v := by simp [allT]
theorem sntT_take {l : List ClR} {i : Nat} (h : i < l.length) : sntT (l.take (i + 1)) = sntT (l.take i) ++ (if rqC (l.getD i noCl).o (l.getD i noCl).p (l.getD i noCl).s (l.getD i noCl).ks.length = 0 then [l.getD i noCl] else []) := by
  have e : l.take (i + 1) = l.take i ++ [l.getD i noCl] := by
    rw [List.take_succ_eq_append_getElem h, List.getD_eq_getElem?_getD, List.getElem?_eq_getElem h]; rfl
  rw [e]
  unfold sntT
  rw [List.filter_append]
  congr 1
  by_cases g : rqC (l.getD i noCl).o (l.getD i noCl).p (l.getD i noCl).s (l.getD i noCl).ks.length = 0
  · rw [if_pos g, List.filter_cons_of_pos (by simpa using g)]; rfl
  · rw [if_neg g, List.filter_cons_of_neg (by simpa using g)]; rfl
theorem sntT_len (l : List ClR) : (sntT l).length ≤ l.length := List.length_filter_le _ _
theorem sntT_ok (l : List ClR) : ∀ x ∈ sntT l, rqC x.o x.p x.s x.ks.length = 0 := by
  intro x hx
  have := (List.mem_filter.1 hx).2
  simpa using this
theorem rqF_len (x : ClV) : (rqF x).length ≤ 4100 := by
  unfold rqF
  split
  · rename_i h
    rw [encV_length]
    have := rqB_max h
    omega
  · simp
theorem allT_len (l : List ClR) : (allT l).length ≤ 4100 * l.length := by
  induction l with
  | nil => simp [allT]
  | cons a l ih =>
    have : allT (a :: l) = rqF a.v ++ allT l := by simp [allT]
    rw [this, List.length_append]
    have := rqF_len a.v
    simp only [List.length_cons]
    omega
theorem CnM.mono {w : World} {B B' cb : Nat} {D : CnD} (h : CnM w B cb D) (hb : B' ≤ B) : CnM w B' cb D :=
  ⟨h.blk, Nat.le_trans hb h.cbB, fun rb e => by
    obtain ⟨h1, h2⟩ := h.rd rb e
    exact ⟨⟨h1.blk, h1.own.mono hb, h1.byte, h1.ne⟩, Nat.le_trans hb h2⟩, h.line.mono hb, fun q e => by
    obtain ⟨h1, h2, h3, h4⟩ := h.out q e
    exact ⟨h1, Nat.le_trans hb h2, h3, h4⟩, h.uns.mono hb, h.ub, h.held.mono hb, h.kl, h.kh, h.nd⟩
/-- The law's two lists while they grow. -/
structure Or1 (u W : World) (A : Option Addr) (n c : Nat) (all : List Nat) (S : Option Addr) (m d : Nat) (sent : List ClR) : Prop where
  own : OwnV W u.heap.size A n c (all.map V8)
  snt : OwnS W u.heap.size 4 S m d (FCl sent)
  dj : ∀ y ∈ bkV A, y ∉ bkV S
  hB : u.heap.size ≤ W.heap.size
  bw : Below u.heap.size u W
  byt : ∀ q ∈ all, q < 256
section
variable {u W W' : World} {A A' S S' : Option Addr} {n n' c c' m m' d d' : Nat} {all all' : List Nat} {sent sent' : List ClR}
theorem Or1.below (h : Or1 u W A n c all S m d sent) (hb : Below W.heap.size W W') : Or1 u W' A n c all S m d sent :=
  ⟨h.own.below hb, h.snt.below hb, h.dj, Nat.le_trans h.hB hb.size, h.bw.trans (hb.mono h.hB), h.byt⟩
theorem Or1.app (h : Or1 u W A n c all S m d sent) (ho : OwnV W' u.heap.size A' n' c' (all'.map V8)) (hf : Off (bkV A) W W') (hb : ∀ y ∈ bkV A', y ∈ bkV A ∨ y = W.heap.size ∧ y < W'.heap.size) (hy : ∀ q ∈ all', q < 256) : Or1 u W' A' n' c' all' S m d sent :=
  ⟨ho, h.snt.off hf (fun y hy hA => h.dj y hA hy), fun y hy hs => (hb y hy).elim (fun e => h.dj y e hs) (fun e => by have := (h.snt.lt y hs).2; omega), Nat.le_trans h.hB hf.size, h.bw.trans (hf.below h.hB (fun y hy => (h.own.lt y hy).1)), hy⟩
theorem Or1.aps (h : Or1 u W A n c all S m d sent) (ho : OwnS W' u.heap.size 4 S' m' d' (FCl sent')) (hf : Off (bkV S) W W') (hb : ∀ y ∈ bkV S', y ∈ bkV S ∨ y = W.heap.size ∧ y < W'.heap.size) : Or1 u W' A n c all S' m' d' sent' :=
  ⟨h.own.off hf (fun y hy hA => h.dj y hy hA), ho, fun y hy hs => (hb y hs).elim (fun e => h.dj y hy e) (fun e => by have := (h.own.lt y hy).2; omega), Nat.le_trans h.hB hf.size, h.bw.trans (hf.below h.hB (fun y hy => (h.snt.lt y hy).1)), h.byt⟩
end

theorem ord_fr (ls : List ClV) (rest : List Nat) (hok : ∀ x ∈ ls, rqC x.o x.p x.s x.ks.length = 0) : (Fr.frV ((ls.map rqF).flatten ++ ([0, 0, 0, 0] ++ rest))).1 = ls.map fun x => rqB x.o x.p x.s x.ks := by
  have e1 : ls.map rqF = (ls.map fun x => rqB x.o x.p x.s x.ks).map Fr.encV := by
    rw [List.map_map]
    refine List.map_congr_left fun x hx => ?_
    simp only [Function.comp, rqF, hok x hx, if_true]
  have e2 : Fr.frV ([0, 0, 0, 0] ++ rest) = ([], [0, 0, 0, 0] ++ rest, true) := Fr.fr_word_bad 0 (by omega) (by omega) rest
  have e3 := Fr.fr_encs (ls.map fun x => rqB x.o x.p x.s x.ks) ([0, 0, 0, 0] ++ rest) (fun p hp => by
    obtain ⟨x, hx, rfl⟩ := List.mem_map.1 hp
    exact ⟨(rq_min (hok x hx)).1, rqB_max (hok x hx)⟩)
  rw [← e1, e2, List.append_nil] at e3
  rw [e3]
/-- The connection while it is fed, and the law's lists. -/
structure Or2 (u W : World) (cb rb : Nat) (A : Option Addr) (N c : Nat) (all : List Nat) (S : Option Addr) (m d : Nat) (sent : List ClR) (D : CnD) (k : Nat) : Prop where
  oc : OrC u W u.heap.size cb D (bkV A ++ bkV S)
  od : OrD rb D (all.take k)
  own : OwnV W u.heap.size A N c (all.map V8)
  snt : OwnS W u.heap.size 4 S m d (FCl sent)
theorem Or2.below {u W W' : World} {cb rb : Nat} {A : Option Addr} {N c : Nat} {all : List Nat} {S : Option Addr} {m d : Nat} {sent : List ClR} {D : CnD} {k : Nat} (h : Or2 u W cb rb A N c all S m d sent D k) (hb : Below W.heap.size W W') : Or2 u W' cb rb A N c all S m d sent D k :=
  ⟨h.oc.below hb, h.od, h.own.below hb, h.snt.below hb⟩
theorem Or2.feed {u W : World} {cb rb : Nat} {A : Option Addr} {N c : Nat} {all : List Nat} {S : Option Addr} {m d : Nat} {sent : List ClR} {D : CnD} {k q : Nat} (h : Or2 u W cb rb A N c all S m d sent D k) (hg : ∀ p ∈ (Fr.frV all).1, (rqV p).2 = 0) (hl : (Fr.frV all).1.length ≤ 1000) (hal : all.length ≤ 211106232532992)
    (X : Option Addr) (xc : Nat) (ha : Arg W W.heap.size X q xc ((all.drop k).take q)) :
    Calls Try.prog 61 #[.pointer (some ⟨cb, 0, none⟩), .slice X q xc] W fun e w' => ∃ D' f, e = .returned (.int .i64 f) ∧ (f = 0 ∨ f = 13) ∧ Or2 u w' cb rb A N c all S m d sent D' (k + q) := by
  have hall : all = (all.take k ++ (all.drop k).take q) ++ all.drop (k + q) := by rw [← take_mid]; exact (List.take_append_drop _ _).symm
  refine (h.oc.feed h.od hall hg hl hal X q xc ha).mono ?_
  rintro e w' ⟨D', f, rfl, hf, hoc, hst, hod⟩
  exact ⟨D', f, rfl, hf, hoc, by rw [take_mid]; exact hod, h.oc.keepV h.own (fun y hy => List.mem_append_left _ hy) hst, h.oc.keepS h.snt (fun y hy => List.mem_append_right _ hy) hst⟩
def OrJ (u : World) (cb rb : Nat) (A : Option Addr) (N c : Nat) (all : List Nat) (S : Option Addr) (m d : Nat) (sent : List ClR) (av iv : Value) (wr : World) : Prop :=
  ∃ (k i : Nat) (D : CnD), k ≤ N ∧ av = .int .i64 (k : Int) ∧ iv = .int .i64 (i : Int) ∧ i ≤ 201 ∧ (k < N → i ≤ 200) ∧ Or2 u wr cb rb A N c all S m d sent D k

theorem usedV_o (x : ClV) : (usedV x).o = x.o := by
  unfold usedV
  split
  · rfl
  · split <;> rfl
theorem usedV_kl {x : ClV} (h : rqC x.o x.p x.s x.ks.length = 0) : (usedV x).ks.length ≤ 255 := by
  rcases rqC_ways h with g | ⟨_, g, _⟩
  · unfold usedV; rw [if_pos (by omega)]; simp
  · unfold usedV
    split
    · simp
    · split <;> exact g
theorem FCl_at (l : List ClR) (i : Nat) (h : i < l.length) : (FCl l)[i * 4]? = some (.int .u8 ((l.getD i noCl).o)) := by
  induction l generalizing i with
  | nil => simp at h
  | cons a l ih =>
    rw [FCl_cons]
    cases i with
    | zero => rfl
    | succ i =>
      rw [show (i + 1) * 4 = a.cells.length + i * 4 by rw [ClR.len]; omega, List.getElem?_append_right (by omega), Nat.add_sub_cancel_left]
      exact ih i (by simpa using h)
/-- The connection while it answers; the law's lists; blocks Z apart from it. -/
structure Or3 (u W : World) (cb : Nat) (S : Option Addr) (m d : Nat) (sent : List ClR) (GA : Option Addr) (gn gc : Nat) (got : List Nat) (PA : Option Addr) (pn pc : Nat) (want : List Nat) (Z : List Nat) (D : CnD) : Prop where
  oc : OrC u W u.heap.size cb D (bkV S ++ (bkV GA ++ (bkV PA ++ Z)))
  snt : OwnS W u.heap.size 4 S m d (FCl sent)
  go : OwnV W u.heap.size GA gn gc (got.map V8)
  wa : OwnV W u.heap.size PA pn pc (want.map V8)
  d1 : ∀ y ∈ bkV S, y ∉ bkV GA ∧ y ∉ bkV PA
  d2 : ∀ y ∈ bkV GA, y ∉ bkV PA
  gb : ∀ q ∈ got, q < 256
  wb : ∀ q ∈ want, q < 256
section
variable {u W W' : World} {cb m d gn gc pn pc : Nat} {S GA PA : Option Addr} {sent : List ClR} {got want : List Nat} {Z Z' : List Nat} {D D' : CnD}
theorem Or3.below (h : Or3 u W cb S m d sent GA gn gc got PA pn pc want Z D) (hb : Below W.heap.size W W') : Or3 u W' cb S m d sent GA gn gc got PA pn pc want Z D :=
  ⟨h.oc.below hb, h.snt.below hb, h.go.below hb, h.wa.below hb, h.d1, h.d2, h.gb, h.wb⟩
theorem Or3.stp (h : Or3 u W cb S m d sent GA gn gc got PA pn pc want Z D) (hc : OrC u W' u.heap.size cb D' (bkV S ++ (bkV GA ++ (bkV PA ++ Z)))) (hs : Stp W W' cb D D') : Or3 u W' cb S m d sent GA gn gc got PA pn pc want Z D' :=
  ⟨hc, h.oc.keepS h.snt (fun y hy => List.mem_append_left _ hy) hs, h.oc.keepV h.go (fun y hy => List.mem_append_right _ (List.mem_append_left _ hy)) hs, h.oc.keepV h.wa (fun y hy => List.mem_append_right _ (List.mem_append_right _ (List.mem_append_left _ hy))) hs, h.d1, h.d2, h.gb, h.wb⟩
theorem Or3.newZ (h : Or3 u W cb S m d sent GA gn gc got PA pn pc want Z D) (hb : Below W.heap.size W W') (hZ : ∀ y ∈ Z', W.heap.size ≤ y ∧ y < W'.heap.size) : Or3 u W' cb S m d sent GA gn gc got PA pn pc want Z' D :=
  ⟨h.oc.grow (S := []) (Off.of_below hb) (by simp) (fun y hy => by
    simp only [List.mem_append] at hy ⊢
    rcases hy with g | g | g | g
    · exact .inl (.inl g)
    · exact .inl (.inr (.inl g))
    · exact .inl (.inr (.inr (.inl g)))
    · exact .inr (hZ y g)), h.snt.below hb, h.go.below hb, h.wa.below hb, h.d1, h.d2, h.gb, h.wb⟩
theorem Or3.wapp {PA' : Option Addr} {pn' pc' : Nat} {want' : List Nat} (h : Or3 u W cb S m d sent GA gn gc got PA pn pc want Z D) (ho : OwnV W' u.heap.size PA' pn' pc' (want'.map V8)) (hf : Off (bkV PA) W W') (hb : ∀ y ∈ bkV PA', y ∈ bkV PA ∨ y = W.heap.size ∧ y < W'.heap.size) (hy : ∀ q ∈ want', q < 256) : Or3 u W' cb S m d sent GA gn gc got PA' pn' pc' want' [] D := by
  refine ⟨h.oc.grow hf (fun y hy => List.mem_append_right _ (List.mem_append_right _ (List.mem_append_left _ hy))) (fun y hy => ?_), h.snt.off hf (fun y hy => (h.d1 y hy).2), h.go.off hf h.d2, ho, fun y hy => ⟨(h.d1 y hy).1, fun g => (hb y g).elim (h.d1 y hy).2 (fun e => by have := (h.snt.lt y hy).2; omega)⟩, fun y hy g => (hb y g).elim (h.d2 y hy) (fun e => by have := (h.go.lt y hy).2; omega), h.gb, hy⟩
  simp only [List.mem_append, List.not_mem_nil, or_false] at hy ⊢
  rcases hy with g | g | g
  · exact .inl (.inl g)
  · exact .inl (.inr (.inl g))
  · exact (hb y g).elim (fun e => .inl (.inr (.inr (.inl e)))) (fun e => .inr ⟨by omega, e.2⟩)
theorem Or3.gapp {GA' : Option Addr} {gn' gc' : Nat} {got' : List Nat} (h : Or3 u W cb S m d sent GA gn gc got PA pn pc want [] D) (ho : OwnV W' u.heap.size GA' gn' gc' (got'.map V8)) (hf : Off (bkV GA) W W') (hb : ∀ y ∈ bkV GA', y ∈ bkV GA ∨ y = W.heap.size ∧ y < W'.heap.size) (hy : ∀ q ∈ got', q < 256) : Or3 u W' cb S m d sent GA' gn' gc' got' PA pn pc want [] D := by
  refine ⟨h.oc.grow hf (fun y hy => List.mem_append_right _ (List.mem_append_left _ hy)) (fun y hy => ?_), h.snt.off hf (fun y hy => (h.d1 y hy).1), ho, h.wa.off hf (fun y hy g => h.d2 y g hy), fun y hy => ⟨fun g => (hb y g).elim (h.d1 y hy).1 (fun e => by have := (h.snt.lt y hy).2; omega), (h.d1 y hy).2⟩, fun y hy g => (hb y hy).elim (fun e => h.d2 y e g) (fun e => by have := (h.wa.lt y g).2; omega), hy, h.wb⟩
  simp only [List.mem_append, List.not_mem_nil, or_false] at hy ⊢
  rcases hy with g | g | g
  · exact .inl (.inl g)
  · exact (hb y g).elim (fun e => .inl (.inr (.inl e))) (fun e => .inr ⟨by omega, e.2⟩)
  · exact .inl (.inr (.inr g))
theorem Or3.next (h : Or3 u W cb S m d sent GA gn gc got PA pn pc want Z D) (x : ClV) (xs : List ClV) (hd : OrE D (x :: xs)) (k : Nat) (hk : x.ks.length = k) (hk2 : k ≤ 255) :
    Calls Try.prog 62 #[.pointer (some ⟨cb, 0, none⟩)] W fun e w' => ∃ KB kc D' q, e = .returned (.tuple #[.agg #[.int .u8 x.o, .int .i64 x.p, .slice KB k kc, .int .i64 x.s], .int .i64 0]) ∧ Or3 u w' cb S m d sent GA gn gc got PA pn pc want Z D' ∧ D'.ob = some q ∧ D'.rows.map ClR.v = xs ∧ D'.fin = 12 ∧ D'.cl = false ∧ D'.us = D.us ∧ D'.toks = D.toks := by
  refine (h.oc.next x xs hd k hk hk2).mono ?_
  rintro e w' ⟨KB, kc, D', q, he, hc, hs, hq, _, hr, hf, hl, hu, ht⟩
  exact ⟨KB, kc, D', q, he, h.stp hc hs, hq, hr, hf, hl, hu, ht⟩
theorem Or3.reply (h : Or3 u W cb S m d sent GA gn gc got PA pn pc want Z D) (q : Nat × ClR) (hob : D.ob = some q) (xs : List ClV) (hrow : D.rows.map ClR.v = xs) (hfin : D.fin = 12) (hcl : D.cl = false) (r : RpV) (hr : r.ok = true) (k : Nat) (hk : D.toks.length ≤ k) (hk2 : k ≤ 900) (hu : D.us.length ≤ 100000) :
    Calls Try.prog 63 #[.pointer (some ⟨cb, 0, none⟩), .agg #[.int .i64 r.E, .bool r.G, .int .i64 r.a, .int .i64 r.b, .int .i64 r.c, .int .i64 r.d]] W fun e w' => ∃ D', e = .returned (.int .i64 0) ∧ Or3 u w' cb S m d sent GA gn gc got PA pn pc want Z D' ∧ OrE D' xs ∧ D'.us = D.us ++ Fr.encV r.bytes ∧ D'.toks.length ≤ k + 1 ∧ (∀ (F : Option Addr) (fn fc : Nat) (vs : List Value), OwnV W u.heap.size F fn fc vs → (∀ y ∈ bkV F, y ∈ Z) → OwnV w' u.heap.size F fn fc vs) := by
  refine (h.oc.reply q hob xs hrow hfin hcl r hr k hk hk2 hu).mono ?_
  rintro e w' ⟨D', he, hc, hs, hoe, hus, htl⟩
  exact ⟨D', he, h.stp hc hs, hoe, hus, htl, fun F fn fc vs ho hF => h.oc.keepV ho (fun y hy => List.mem_append_right _ (List.mem_append_right _ (List.mem_append_right _ (hF y hy)))) hs⟩
theorem Or3.take (h : Or3 u W cb S m d sent GA gn gc got PA pn pc want Z D) (k : Nat) (hk : D.us.length = k) :
    Calls Try.prog 64 #[.pointer (some ⟨cb, 0, none⟩)] W fun e w' => ∃ T tc D', e = .returned (.slice T k tc) ∧ Or3 u w' cb S m d sent GA gn gc got PA pn pc want Z D' ∧ SrcV w' T k (D.us.map V8) ∧ (T = none → tc = 0) ∧ D'.us = [] ∧ D'.toks = D.toks ∧ D'.cl = D.cl ∧ (∀ xs, OrE D xs → OrE D' xs) := by
  have hub := h.oc.cn.ub
  refine (ab_take W u.heap.size cb D h.oc.cn k hk).mono ?_
  rintro e w' ⟨T, tc, D', he, hc, hs, ho, hu, hob, hr, ht, hkk⟩
  exact ⟨T, tc, D', he, h.stp (h.oc.stp hc hs) hs, (ho.arg' hub).src, fun e => (ho.none_ e).2, hu, ht, hkk.cl, fun xs hx => ⟨by rw [hr]; exact hx.rows, hkk.fin.trans hx.fin, hkk.cl.trans hx.cl, hob.trans hx.ob, by rw [ht]; exact hx.tl⟩⟩
end
def OrK (u : World) (cb : Nat) (S : Option Addr) (m d : Nat) (sent : List ClR) (xs : List ClV) (wv gv iv : Value) (wr : World) : Prop :=
  ∃ (i : Nat) (GA : Option Addr) (gn gc : Nat) (got : List Nat) (PA : Option Addr) (pn pc : Nat) (want : List Nat) (D : CnD), i ≤ m ∧ iv = .int .i64 (i : Int) ∧ wv = .slice PA pn pc ∧ gv = .slice GA gn gc ∧ Or3 u wr cb S m d sent GA gn gc got PA pn pc want [] D ∧ OrE D (xs.drop i) ∧ got ++ D.us = want ∧ D.toks.length ≤ i ∧ want.length = 38 * i
theorem Or3.end_ {u W : World} {cb m d gn gc pn pc : Nat} {S GA PA : Option Addr} {sent : List ClR} {got want : List Nat} {Z : List Nat} {D : CnD} (h : Or3 u W cb S m d sent GA gn gc got PA pn pc want Z D) (hd : OrE D []) (hu : D.us.length ≤ 100000) :
    Calls Try.prog 62 #[.pointer (some ⟨cb, 0, none⟩)] W fun e w' => ∃ D', e = .returned (.tuple #[.agg #[.int .u8 0, .int .i64 0, .slice none 0 0, .int .i64 0], .int .i64 13]) ∧ Or3 u w' cb S m d sent GA gn gc got PA pn pc want Z D' ∧ D'.us = D.us ++ Fr.encV (RpV.bytes ⟨12, false, 0, 0, 0, 0⟩) ∧ D'.cl = true ∧ D'.ob = none := by
  refine (h.oc.end_ hd hu).mono ?_
  rintro e w' ⟨D', he, hc, hs, hus, hcl, hob⟩
  exact ⟨D', he, h.stp hc hs, hus, hcl, hob⟩
theorem Or3.next2 {u W : World} {cb m d gn gc pn pc : Nat} {S GA PA : Option Addr} {sent : List ClR} {got want : List Nat} {Z : List Nat} {D : CnD} (h : Or3 u W cb S m d sent GA gn gc got PA pn pc want Z D) (ho : D.ob = none) (hcl : D.cl = true) :
    Calls Try.prog 62 #[.pointer (some ⟨cb, 0, none⟩)] W fun e w' => e = .returned (.tuple #[.agg #[.int .u8 0, .int .i64 0, .slice none 0 0, .int .i64 0], .int .i64 13]) ∧ Or3 u w' cb S m d sent GA gn gc got PA pn pc want Z D := by
  refine (cn_next_closed W u.heap.size cb D h.oc.cn ho hcl).mono ?_
  rintro e w' ⟨he, hb⟩
  exact ⟨he, h.below hb⟩
theorem ClsA.to_ {w : World} {B n c : Nat} {A : Option Addr} {L : List ClR} (h : ClsA w B A n c L) {m : Nat} (hm : m ≤ n) : ClsA w B A m c (L.take m) := by
  have hl := h.len
  refine ⟨by rw [List.length_take]; omega, Nat.le_trans hm h.le, h.cap, fun h0 => ?_, fun e he => h.key e (List.mem_of_mem_take he)⟩
  obtain ⟨b, off, e, hb, hc⟩ := h.at_ (by omega)
  refine ⟨b, off, e, hb, fun i j v hi hv => hc i j v (by omega) ?_⟩
  rw [List.getD_eq_getElem?_getD, List.getElem?_take_of_lt hi, ← List.getD_eq_getElem?_getD] at hv
  exact hv
/-- What stands in a round of the first loop, at its two appends. -/
structure Md (u W : World) (A : Option Addr) (n c : Nat) (all : List Nat) (S : Option Addr) (m d : Nat) (sent : List ClR) (b13 : Nat) (x : ClR) (XA : Option Addr) (fl xc : Nat) : Prop where
  o : Or1 u W A n c all S m d sent
  k : BlkL W b13 x.cells
  r : OwnV W (b13 + 1) XA fl xc ((rqF x.v).map V8)
  hA : ∀ y ∈ bkV A, y ≠ b13 ∧ y ∉ bkV XA
  hS : ∀ y ∈ bkV S, y ≠ b13 ∧ y ∉ bkV XA
section
variable {u W W' : World} {A A' S S' XA : Option Addr} {n n' c c' m m' d d' b13 fl xc : Nat} {all all' : List Nat} {sent sent' : List ClR} {x : ClR}
theorem Md.below (h : Md u W A n c all S m d sent b13 x XA fl xc) (hb : Below W.heap.size W W') : Md u W' A n c all S m d sent b13 x XA fl xc :=
  ⟨h.o.below hb, h.k.below hb, h.r.below hb, h.hA, h.hS⟩
theorem Md.app (h : Md u W A n c all S m d sent b13 x XA fl xc) (ho : OwnV W' u.heap.size A' n' c' (all'.map V8)) (hf : Off (bkV A) W W') (hb : ∀ y ∈ bkV A', y ∈ bkV A ∨ y = W.heap.size ∧ y < W'.heap.size) (hy : ∀ q ∈ all', q < 256) : Md u W' A' n' c' all' S m d sent b13 x XA fl xc :=
  ⟨h.o.app ho hf hb hy, h.k.off hf (fun hy => (h.hA _ hy).1 rfl), h.r.off hf (fun y hy hA => (h.hA y hA).2 hy), fun y hy => (hb y hy).elim (h.hA y) (fun e => ⟨fun g => by have := h.k.lt; omega, fun g => by have := (h.r.lt y g).2; omega⟩), h.hS⟩
theorem Md.aps (h : Md u W A n c all S m d sent b13 x XA fl xc) (ho : OwnS W' u.heap.size 4 S' m' d' (FCl sent')) (hf : Off (bkV S) W W') (hb : ∀ y ∈ bkV S', y ∈ bkV S ∨ y = W.heap.size ∧ y < W'.heap.size) : Md u W' A n c all S' m' d' sent' b13 x XA fl xc :=
  ⟨h.o.aps ho hf hb, h.k.off hf (fun hy => (h.hS _ hy).1 rfl), h.r.off hf (fun y hy hA => (h.hS y hA).2 hy), h.hA, fun y hy => (hb y hy).elim (h.hS y) (fun e => ⟨fun g => by have := h.k.lt; omega, fun g => by have := (h.r.lt y g).2; omega⟩)⟩
theorem Md.src (h : Md u W A n c all S m d sent b13 x XA fl xc) (hby : ∀ q ∈ rqF x.v, q < 256) : SrcV W XA fl ((rqF x.v).map V8) := (h.r.arg' hby).src
end
def OrI (u : World) (n : Nat) (L : List ClR) (av sv iv : Value) (wr : World) : Prop :=
  ∃ (i na ca m d : Nat) (A S : Option Addr), i ≤ n ∧ iv = .int .i64 (i : Int) ∧ av = .slice A na ca ∧ sv = .slice S m d ∧ m = (sntT (L.take i)).length ∧ na = (allT (sntT (L.take i))).length ∧ Or1 u wr A na ca (allT (sntT (L.take i))) S m d (sntT (L.take i))
set_option maxHeartbeats 6400000 in
theorem connOrder_walk (A : Option Addr) (n c : Nat) (L : List ClR) (RA : Option Addr) (rn rc : Nat) (RL : List RpV) (CA : Option Addr) (cn cc : Nat) (cs : List Nat) (SA : Option Addr) (sn sc : Nat) (ss : List Nat) (w : World)
    (hc : ClsA w w.heap.size A n c L) (hr : RpsA w w.heap.size RA rn rc RL) (hq : Arg w w.heap.size CA cn cc cs) (hs : Arg w w.heap.size SA sn sc ss) (hz : sn ≤ 140737488351232) :
    Calls Try.prog 16 #[.slice A n c, .slice RA rn rc, .slice CA cn cc, .slice SA sn sc] w (ValEnd w (.bool true)) := by
  have HA := Lib.hid hc
  have HR := Lib.hid hr
  have HQ := Lib.hid hq
  have HS := Lib.hid hs
  have HZ := Lib.hid hz
  have hcap := hc.cap
  have hle := hc.le
  unfold maxLen at hcap
  obtain ⟨n1, hn1⟩ : ∃ n1, min n 20 = n1 := ⟨_, rfl⟩
  have m1 : (if (n : Int) < 20 then (n : Int) else 20) = (n1 : Int) := by split <;> omega
  have m2 : (if (20 : Int) < (n : Int) then (20 : Int) else (n : Int)) = (n1 : Int) := by split <;> omega
  have m3 : n1 ≤ c := by omega
  have m4 : n1 ≤ 20 := by omega
  have m5 : n1 ≤ n := by omega
  have m6 : (n1 : Int) ≤ (c : Int) := by omega
  have m7 : (0 : Int) ≤ (n1 : Int) := by omega
  have HN1 := Lib.hid hn1
  clear hc hr hq hs hz hn1
  go_enter Try.func16, Try.ntmps16
  go_wp2_with fail
  with_reducible refine (awake22_any _).mono ?_
  rintro e w0 ⟨rfl, hb0⟩
  have HST : Hid (OrI w n1 (L.take n1) (.slice none 0 0) (.slice none 0 0) (.int .i64 0) w0) := Lib.hid ⟨0, 0, 0, 0, 0, none, none, Nat.zero_le _, rfl, rfl, rfl, by simp [sntT], by simp [sntT, allT], ⟨by simpa [sntT, allT] using OwnV.nil _ _, by simpa [sntT, FCl] using OwnS.nil _ _ _, by simp [bkV], hb0.size, hb0, by simp [sntT, allT]⟩⟩
  clear hb0
  go_wp2_with fail
  have HA1 := Lib.hid (HA.out.to_ m5)
  obtain ⟨L1, hL1⟩ : ∃ L1, L.take n1 = L1 := ⟨_, rfl⟩
  rw [hL1] at HA1 HST
  clear hL1 HA
  go_loopw [9, 11, 47] (fun av sv iv wr => OrI w n1 L1 av sv iv wr) (fun _ _ iv _ => n1 - (intOf iv).toNat)
  case atStart => exact HST.out
  case round =>
    obtain ⟨i, na, ca, m, d, A1, S1, hi, rfl, rfl, rfl, hm, hna, ho⟩ := hrel
    have HO := Lib.hid ho
    have HM := Lib.hid hm
    have HNA := Lib.hid hna
    have hmi : m ≤ 20 := by have h1 := sntT_len (L1.take i); rw [List.length_take] at h1; omega
    have hnb : na ≤ 82000 := by have h1 := allT_len (sntT (L1.take i)); omega
    clear ho hm hna HST
    rcases Nat.lt_or_ge i n1 with h1 | h1
    · obtain ⟨b, off, rfl, hbB, hcells⟩ := (HA1.out.below HO.out.bw).at_ (by omega)
      have hil : i < L1.length := by rw [HA1.out.len]; exact h1
      have hsn := sntT_take hil
      obtain ⟨x, hx⟩ : ∃ x, L1.getD i noCl = x := ⟨_, rfl⟩
      have hkx := (HA1.out.below HO.out.bw).key _ (cl_mem hil)
      rw [hx] at hkx hsn
      obtain ⟨mx, hmx⟩ : ∃ mx, x.ks.length = mx := ⟨_, rfl⟩
      have e0 : wr.cell? ⟨b, off + i * 4, none⟩ = some (.int .u8 x.o) := hcells i 0 _ h1 (by rw [hx]; rfl)
      have e1 : wr.cell? ⟨b, off + i * 4 + 1, none⟩ = some (.int .i64 x.p) := hcells i 1 _ h1 (by rw [hx]; rfl)
      have e2 : wr.cell? ⟨b, off + i * 4 + 2, none⟩ = some (.slice x.A mx x.c) := hcells i 2 _ h1 (by rw [hx, ← hmx]; rfl)
      have e3 : wr.cell? ⟨b, off + i * 4 + 3, none⟩ = some (.int .i64 x.s) := hcells i 3 _ h1 (by rw [hx]; rfl)
      have hkm : Arg wr w.heap.size x.A mx x.c x.ks := by rw [← hmx]; exact hkx.1
      obtain ⟨fl, hfl⟩ : ∃ fl, (rqF x.v).length = fl := ⟨_, rfl⟩
      have hfb : fl ≤ 4100 := by rw [← hfl]; exact rqF_len _
      have hcx : x.cells = [.int .u8 x.o, .int .i64 x.p, .slice x.A mx x.c, .int .i64 x.s] := by unfold ClR.cells; rw [hmx]
      have HCX := Lib.hid hcx
      have bb := (Below.refl wr.heap.size wr).alloc (Nat.le_refl _) (.cells #[.int .u8 x.o, .int .i64 x.p, .slice x.A mx x.c, .int .i64 x.s] 71)
      have kk := BlkL.new wr [.int .u8 x.o, .int .i64 x.p, .slice x.A mx x.c, .int .i64 x.s] 71
      have HRX : Hid (Calls Try.prog 59 #[.agg #[.int .u8 x.o, .int .i64 x.p, .slice x.A mx x.c, .int .i64 x.s]] (wr.alloc (.cells #[.int .u8 x.o, .int .i64 x.p, .slice x.A mx x.c, .int .i64 x.s] 71)) fun e w' =>
          ∃ XA xc, e = .returned (.slice XA fl xc) ∧ OwnV w' (wr.heap.size + 1) XA fl xc ((rqF x.v).map V8) ∧ (∀ d ∈ rqF x.v, d < 256) ∧ (rqC x.o x.p x.s x.ks.length = 0 ↔ XA ≠ none) ∧ Below wr.heap.size wr w' ∧ BlkL w' wr.heap.size x.cells) := Lib.hid (by
        have := req_any (wr.alloc (.cells #[.int .u8 x.o, .int .i64 x.p, .slice x.A mx x.c, .int .i64 x.s] 71)) w.heap.size x.v x.A mx x.c (hkm.below (bb.mono HO.out.hB)) (by simp; have := HO.out.hB; omega)
        refine this.mono ?_
        rintro e w' ⟨XA, xc, g1, g2, g3, g4, g5⟩
        rw [hfl] at g1 g2
        exact ⟨XA, xc, g1, by simpa using g2, g3, g4, bb.trans (g5.mono (by simp)), by rw [hcx]; exact kk.below g5⟩)
      have HFL := Lib.hid hfl
      have HSN := Lib.hid hsn
      have i0 : (0 : Int) ≤ (i : Int) := by omega
      have i1 : (i : Int) < (n1 : Int) := by omega
      clear hcells hkx hkm hmx hfl bb kk hcx hsn hx
      go_wp2_with fail
      with_reducible refine (HRX.out).mono ?_
      rintro e w5 ⟨XA, xc, rfl, hox, hby, hiff, hb5, hk5⟩
      have HO5 := Lib.hid (HO.out.below hb5)
      have HBY := Lib.hid hby
      have HIF := Lib.hid hiff
      cases XA with
      | none =>
        have hbad : ¬ rqC x.o x.p x.s x.ks.length = 0 := fun hh => (HIF.out.1 hh) rfl
        have hs2 : sntT (L1.take (i + 1)) = sntT (L1.take i) := by rw [HSN.out, if_neg hbad, List.append_nil]
        have HREL : Hid (OrI w n1 L1 (.slice A1 na ca) (.slice S1 m d) (.int .i64 ((i + 1 : Nat) : Int)) w5) := Lib.hid ⟨i + 1, na, ca, m, d, A1, S1, by omega, rfl, rfl, rfl, by rw [hs2]; exact HM.out, by rw [hs2]; exact HNA.out, by rw [hs2]; exact HO5.out⟩
        have hnq : ∀ W : World, (binOp .neq 22 (.slice none fl xc) (.slice none 0 0)).run Try.prog W = .ok (.bool false) W := fun W => run_neq_slice_nil W _ _ none fl xc Try.underlying22
        clear hox hby hiff hb5 hk5 e0 e1 e2 e3 HRX HO HO5 hbad hs2
        go_wp2
        go_roundw
        case rel => have := HREL.out; simpa using this
        case measure => simp [intOf]; omega
      | some ad =>
        have hok : rqC x.o x.p x.s x.ks.length = 0 := HIF.out.2 (by simp)
        have hs2 : sntT (L1.take (i + 1)) = sntT (L1.take i) ++ [x] := by rw [HSN.out, if_pos hok]
        have m5' : Md w w5 A1 na ca (allT (sntT (L1.take i))) S1 m d (sntT (L1.take i)) wr.heap.size x (some ad) fl xc := ⟨HO5.out, hk5, hox, fun y hy => ⟨fun e => by have := (HO.out.own.lt y hy).2; omega, fun g => by have := (hox.lt y g).1; have := (HO.out.own.lt y hy).2; omega⟩, fun y hy => ⟨fun e => by have := (HO.out.snt.lt y hy).2; omega, fun g => by have := (hox.lt y g).1; have := (HO.out.snt.lt y hy).2; omega⟩⟩
        have M0 : Md w w5.drew A1 na ca (allT (sntT (L1.take i))) S1 m d (sntT (L1.take i)) wr.heap.size x (some ad) fl xc := m5'.below (Below.refl _ _).drew
        have M0a : Md w (w5.alloc (.cells #[.int .u8 x.o, .int .i64 x.p, .slice x.A mx x.c, .int .i64 x.s] 71)).drew A1 na ca (allT (sntT (L1.take i))) S1 m d (sntT (L1.take i)) wr.heap.size x (some ad) fl xc := m5'.below ((Below.refl _ _).alloc (Nat.le_refl _) _).drew
        have L0a : BlkL (w5.alloc (.cells #[.int .u8 x.o, .int .i64 x.p, .slice x.A mx x.c, .int .i64 x.s] 71)).drew w5.heap.size [.int .u8 x.o, .int .i64 x.p, .slice x.A mx x.c, .int .i64 x.s] := (BlkL.new w5 [.int .u8 x.o, .int .i64 x.p, .slice x.A mx x.c, .int .i64 x.s] 71).drew
        have HREL : Hid (∀ (W : World) (A6 S6 : Option Addr) (c6 d6 : Nat), Md w W A6 (na + fl) c6 (allT (sntT (L1.take i)) ++ rqF x.v) S6 (m + 1) d6 (sntT (L1.take i) ++ [x]) wr.heap.size x (some ad) fl xc → OrI w n1 L1 (.slice A6 (na + fl) c6) (.slice S6 (m + 1) d6) (.int .i64 ((i + 1 : Nat) : Int)) W) := Lib.hid (fun W A6 S6 c6 d6 hh => ⟨i + 1, na + fl, c6, m + 1, d6, A6, S6, by omega, rfl, rfl, rfl, by rw [hs2, List.length_append, ← HM.out]; rfl, by rw [hs2, allT_app, List.length_append, ← HNA.out, HFL.out], by rw [hs2, allT_app]; exact hh.o⟩)
        have HW1 : Hid (∀ (W : World) (A6 S6 : Option Addr) (n6 c6 m6 d6 : Nat) (all6 : List Nat) (sent6 : List ClR), Md w W A6 n6 c6 all6 S6 m6 d6 sent6 wr.heap.size x (some ad) fl xc → SrcV W (some ad) fl ((rqF x.v).map V8)) := Lib.hid (fun W A6 S6 n6 c6 m6 d6 all6 sent6 hh => hh.src HBY.out)
        have HL1 : Hid (∀ (W : World) (lb : Nat), BlkL W lb [.int .u8 x.o, .int .i64 x.p, .slice x.A mx x.c, .int .i64 x.s] → SrcS W 4 (some ⟨lb, 0, none⟩) 1 (FCl [x])) := Lib.hid (fun W lb hh => by
          rw [FCl_one, HCX.out]
          exact BlkL.srcS hh (by rw [← HCX.out]; exact ClR.one _) 1 rfl)
        have k0 := M0.k
        rw [HCX.out] at k0
        have x0 := k0.cell 0 _ rfl
        have x1 := k0.cell 1 _ rfl
        have x2 := k0.cell 2 _ rfl
        have x3 := k0.cell 3 _ rfl
        have xl := k0.lt
        obtain ⟨i8, hi8, hy0, hy1, hy2⟩ := info_parts u8_info
        obtain ⟨iC, hiC, hq0, hq1, hq2⟩ := info_partsC
        have hnn : (m + 1) * 48 ≤ 140737488355328 := by omega
        have hna8 : (na + fl) * 1 ≤ 211106232532992 := by omega
        have HBYA : Hid (∀ q ∈ allT (sntT (L1.take i)) ++ rqF x.v, q < 256) := Lib.hid (fun q hq => (List.mem_append.1 hq).elim (HO5.out.byt q) (HBY.out q))
        have HNW : Hid (w5.heap.size ∉ bkV A1 ∧ w5.heap.size ∉ bkV S1) := Lib.hid ⟨fun hh => by have := (HO5.out.own.lt _ hh).2; omega, fun hh => by have := (HO5.out.snt.lt _ hh).2; omega⟩
        have hnq : ∀ W : World, (binOp .neq 22 (.slice (some ad) fl xc) (.slice none 0 0)).run Try.prog W = .ok (.bool true) W := fun W => run_neq_slice_nil W _ _ (some ad) fl xc Try.underlying22
        clear hox hby hiff hb5 hk5 e0 e1 e2 e3 HRX HO HO5 hok hs2 m5' k0
        go_wp2_with fail
        go_region_law (first
          | (refine step_append_w Try.underlying22 hi8 hy0 hy1 hy2 rfl rfl (.tmp 55) (.tmp 56) rfl rfl M0.o.own (some ad) fl xc ((rqF x.v).map V8) rfl (HW1.out _ _ _ _ _ _ _ _ _ M0) (by simp) (by omega) hna8 M0.o.hB ?_; intro A6 c6 w6 ho6 hf6 hg6; have h6 := M0.app (all' := allT (sntT (L1.take i)) ++ rqF x.v) (by rw [List.map_append]; exact ho6) hf6 hg6 HBYA.out; have h6a := h6.below ((Below.refl w6.heap.size w6).alloc (Nat.le_refl _) (.cells #[.int .u8 x.o, .int .i64 x.p, .slice x.A mx x.c, .int .i64 x.s] 71)); have l6a := BlkL.new w6 [.int .u8 x.o, .int .i64 x.p, .slice x.A mx x.c, .int .i64 x.s] 71; have k6 := h6.k; rw [HCX.out] at k6; have z0 := k6.cell 0 _ rfl; have z1 := k6.cell 1 _ rfl; have z2 := k6.cell 2 _ rfl; have z3 := k6.cell 3 _ rfl; have zl := k6.lt; clear ho6 hf6 hg6 k6)
          | (refine step_append_w Try.underlying22 hi8 hy0 hy1 hy2 rfl rfl (.tmp 55) (.tmp 56) rfl rfl M0a.o.own (some ad) fl xc ((rqF x.v).map V8) rfl (HW1.out _ _ _ _ _ _ _ _ _ M0a) (by simp) (by omega) hna8 M0a.o.hB ?_; intro A6 c6 w6 ho6 hf6 hg6; have h6 := M0a.app (all' := allT (sntT (L1.take i)) ++ rqF x.v) (by rw [List.map_append]; exact ho6) hf6 hg6 HBYA.out; have l6 := L0a.off hf6 HNW.out.1; have k6 := h6.k; rw [HCX.out] at k6; have z0 := k6.cell 0 _ rfl; have z1 := k6.cell 1 _ rfl; have z2 := k6.cell 2 _ rfl; have z3 := k6.cell 3 _ rfl; have zl := k6.lt; clear ho6 hf6 hg6 k6)
          | (refine step_append_s Try.underlying98 hiC hq0 hq1 hq2 rfl rfl (.tmp 58) (.tmp 60) rfl rfl M0a.o.snt (some ⟨w5.heap.size, 0, none⟩) 1 1 (FCl [x]) rfl (HL1.out _ _ L0a) (by simp) (by omega) hnn M0a.o.hB ?_; intro S6 d6 w6 ho6 hf6 hg6; have h6 := M0a.aps (sent' := sntT (L1.take i) ++ [x]) (by rw [FCl_append]; exact ho6) hf6 hg6; clear ho6 hf6 hg6)
          | (refine step_append_s Try.underlying98 hiC hq0 hq1 hq2 rfl rfl (.tmp 58) (.tmp 60) rfl rfl (Md.o (by assumption)).snt (some ⟨_, 0, none⟩) 1 1 (FCl [x]) rfl (HL1.out _ _ (by assumption)) (by simp) (by omega) hnn (Md.o (by assumption)).hB ?_; intro S7 d7 w7 ho7 hf7 hg7; have h7 := Md.aps (sent' := sntT (L1.take i) ++ [x]) (by assumption) (by rw [FCl_append]; exact ho7) hf7 hg7; clear ho7 hf7 hg7)
          | (refine step_append_w Try.underlying22 hi8 hy0 hy1 hy2 rfl rfl (.tmp 55) (.tmp 56) rfl rfl (Md.o (by assumption)).own (some ad) fl xc ((rqF x.v).map V8) rfl (HW1.out _ _ _ _ _ _ _ _ _ (by assumption)) (by simp) (by omega) hna8 (Md.o (by assumption)).hB ?_; intro A7 c7 w7 ho7 hf7 hg7; have h7 := Md.app (all' := allT (sntT (L1.take i)) ++ rqF x.v) (by assumption) (by rw [List.map_append]; exact ho7) hf7 hg7 HBYA.out; clear ho7 hf7 hg7))
        all_goals
          go_wp2
          go_roundw
          case rel => have := HREL.out _ _ _ _ _ (by assumption); simpa using this
          case measure => simp [intOf]; omega
    · obtain rfl : i = n1 := by omega
      have j1 : ¬ (i : Int) < (i : Int) := by omega
      have htk : L1.take i = L1 := List.take_of_length_le (by rw [HA1.out.len]; exact Nat.le_refl _)
      obtain ⟨sent, hsent⟩ : ∃ sent, sntT L1 = sent := ⟨_, rfl⟩
      obtain ⟨all0, hall0⟩ : ∃ all0, allT sent = all0 := ⟨_, rfl⟩
      have ho1 := HO.out
      rw [htk, hsent, hall0] at ho1
      have hmS := HM.out
      rw [htk, hsent] at hmS
      have hnaS := HNA.out
      rw [htk, hsent, hall0] at hnaS
      have HSO : Hid (∀ x ∈ sent, rqC x.o x.p x.s x.ks.length = 0) := Lib.hid (by rw [← hsent]; exact sntT_ok L1)
      have HALL0 := Lib.hid hall0
      have HMS := Lib.hid hmS
      have HNS := Lib.hid hnaS
      obtain ⟨i8, hi8, hy0, hy1, hy2⟩ := info_parts u8_info
      have hsz := HZ.out
      have hz4 : (na + 4) * 1 ≤ 211106232532992 := by omega
      have hz5 : (na + 4 + sn) * 1 ≤ 211106232532992 := by omega
      have bl := (Below.refl wr.heap.size wr).alloc (Nat.le_refl _) (.cells #[.int .u8 0, .int .u8 0, .int .u8 0, .int .u8 0] 5)
      have HOL := Lib.hid (ho1.below bl)
      have hlit : OwnV (wr.alloc (.cells #[.int .u8 0, .int .u8 0, .int .u8 0, .int .u8 0] 5)) wr.heap.size (some ⟨wr.heap.size, 0, none⟩) 4 4 ([0, 0, 0, 0].map V8) := OwnV.lit wr [0, 0, 0, 0] 5 (by unfold maxLen; simp)
      have HLIT := Lib.hid (hlit.arg' (by simp)).src
      have HBL : Hid (w.heap.size ≤ (wr.alloc (.cells #[.int .u8 0, .int .u8 0, .int .u8 0, .int .u8 0] 5)).heap.size) := Lib.hid HOL.out.hB
      clear bl hlit ho1 hmS hnaS hsent hall0 htk HO HM HNA
      go_wp2_with (refine wpList_append_w Try.underlying22 hi8 hy0 hy1 hy2 rfl rfl (.tmp 63) (.tmp 64) rfl rfl HOL.out.own (some ⟨wr.heap.size, 0, none⟩) 4 4 ([0, 0, 0, 0].map V8) rfl HLIT.out (by simp) (by omega) hz4 HBL.out ?_)
      intro A2 c2 w2 ho2 hf2 hg2
      have HO2 : Hid (Or1 w w2 A2 (na + 4) c2 (all0 ++ [0, 0, 0, 0]) S1 m d sent) := Lib.hid (HOL.out.app (by rw [List.map_append]; exact ho2) hf2 (by simpa using hg2) (fun q hq => (List.mem_append.1 hq).elim (HOL.out.byt q) (fun h => by simp at h; omega)))
      have hs2 := HS.out.below HO2.out.bw
      have HSRC := Lib.hid hs2.src
      have HSNN : Hid (SA = none → sc = 0) := Lib.hid (fun e => (hs2.none_ e).2)
      have HBB2 := Lib.hid HO2.out.hB
      clear ho2 hf2 hg2 hs2 HOL HLIT HBL
      go_wp2_with (refine wpList_append_w Try.underlying22 hi8 hy0 hy1 hy2 rfl rfl (.tmp 66) (.tmp 67) rfl rfl HO2.out.own SA sn sc (ss.map V8) rfl HSRC.out HSNN.out (by omega) hz5 HBB2.out ?_)
      intro A3 c3 w3 ho3 hf3 hg3
      have ho3' : Or1 w w3 A3 (na + 4 + sn) c3 (all0 ++ [0, 0, 0, 0] ++ ss) S1 m d sent := HO2.out.app (by simpa using ho3) hf3 hg3 (fun q hq => (List.mem_append.1 hq).elim (HO2.out.byt q) (HS.out.byte q))
      obtain ⟨all, hall⟩ : ∃ all, all0 ++ [0, 0, 0, 0] ++ ss = all := ⟨_, rfl⟩
      obtain ⟨N, hN⟩ : ∃ N, na + 4 + sn = N := ⟨_, rfl⟩
      rw [hall, hN] at ho3'
      rw [hN]
      have HO3 := Lib.hid ho3'
      have HBA := Lib.hid ho3'.byt
      have HALL := Lib.hid hall
      have hal : all.length = N := by have := ho3'.own.len; simpa using this
      have HAL := Lib.hid hal
      have hNb : N ≤ 211106232532992 := by omega
      have hN1 : 4 ≤ N := by omega
      clear ho3 hf3 hg3 ho3' hall hal HO2 HSRC HSNN HBB2 hz4 hz5
      have HMX := Lib.hid (And.intro hmi (And.intro hsz hN))
      clear hmi hnb hsz hN
      go_wp2_with fail
      with_reducible refine (cn_new w3).mono ?_
      rintro e w4 ⟨rfl, hcn, hb4⟩
      obtain ⟨rb, hrb⟩ : ∃ rb, rb = w3.heap.size := ⟨_, rfl⟩
      obtain ⟨cb, hcb⟩ : ∃ cb, cb = w3.heap.size + 1 := ⟨_, rfl⟩
      rw [← hcb, ← hrb] at hcn
      rw [← hcb]
      have hx4 : ∀ y ∈ bkV A3 ++ bkV S1, y < w3.heap.size ∧ w.heap.size ≤ y := fun y hy => (List.mem_append.1 hy).elim (fun h => ⟨(HO3.out.own.lt y h).2, (HO3.out.own.lt y h).1⟩) (fun h => ⟨(HO3.out.snt.lt y h).2, (HO3.out.snt.lt y h).1⟩)
      have h24 : Or2 w w4 cb rb A3 N c3 all S1 m d sent (CnD.new rb) 0 := by
        refine ⟨⟨hcn.mono (by rw [hrb]; exact HO3.out.hB), Nat.le_trans HO3.out.hB hb4.size, HO3.out.bw.trans (hb4.mono HO3.out.hB), Nat.le_refl _, fun y hy => ?_⟩, by rw [List.take_zero]; exact OrD.new rb, HO3.out.own.below hb4, HO3.out.snt.below hb4⟩
        obtain ⟨g1, g2⟩ := hx4 y hy
        exact ⟨Nat.lt_of_lt_of_le g1 hb4.size, g2, by simp only [CnD.M, CnD.new, rbsD, bkV, List.mem_cons, List.append_nil, List.not_mem_nil, or_false]; omega, by simp [CnD.R, CnD.new]⟩
      have HST2 : Hid (OrJ w cb rb A3 N c3 all S1 m d sent (.int .i64 0) (.int .i64 0) w4) := Lib.hid ⟨0, 0, CnD.new rb, Nat.zero_le _, rfl, rfl, by omega, fun _ => by omega, h24⟩
      have hfr : (Fr.frV all).1 = (sent.map ClR.v).map fun x => rqB x.o x.p x.s x.ks := by
        rw [← HALL.out, ← HALL0.out, List.append_assoc]
        exact ord_fr _ ss (fun x hx => by obtain ⟨r, hr, rfl⟩ := List.mem_map.1 hx; exact HSO.out r hr)
      have HG : Hid (∀ p ∈ (Fr.frV all).1, (rqV p).2 = 0) := Lib.hid (by
        rw [hfr]
        intro p hp
        obtain ⟨x, hx, rfl⟩ := List.mem_map.1 hp
        obtain ⟨r, hr, rfl⟩ := List.mem_map.1 hx
        rw [rqV_self (HSO.out r hr)])
      have HGL : Hid ((Fr.frV all).1.length ≤ 1000) := Lib.hid (by rw [hfr, List.length_map, List.length_map, ← HMS.out]; have := HMX.out.1; omega)
      clear hcn hb4 hrb hcb hx4 h24 hfr HO3
      go_wp2_with fail
      go_loopw [16, 17] (fun av iv wr => OrJ w cb rb A3 N c3 all S1 m d sent av iv wr) (fun av iv _ => (N - (intOf av).toNat) + (200 - (intOf iv).toNat))
      case atStart => exact HST2.out
      case round =>
        obtain ⟨k, i, D, hk, rfl, rfl, hi, hik, ho⟩ := hrel
        have HO := Lib.hid ho
        clear ho HST2
        rename World => wq
        rcases Nat.lt_or_ge k N with hlt | hge
        · obtain ⟨n0, hn0⟩ : ∃ n0, N = k + n0 := ⟨N - k, by omega⟩
          have hn1 : 1 ≤ n0 := by omega
          have hk0 : k + n0 ≤ N := by omega
          have HN0 := Lib.hid hn0
          have hi2 : i ≤ 200 := hik hlt
          have s1 : (N : Int) - (k : Int) = (n0 : Int) := by omega
          have c1 : decide ((k : Int) < (N : Int)) = true := by simp; omega
          clear hik hn0
          rcases Nat.lt_or_ge i cn with him | him
          · rcases Nat.lt_or_ge i 200 with hi4 | hi4
            · have e1 : decide ((i : Int) < (cn : Int)) = true := by simp; omega
              have e2 : decide ((i : Int) < 200) = true := by simp; omega
              have hyr := HQ.out.below HO.out.oc.bw
              obtain ⟨b, off, rfl, _, hc⟩ := hyr.at_ (by omega)
              have y0 := hc i him
              have hyl : cs.getD i 0 < 256 := hyr.byte _ (by rw [List.getD_eq_getElem?_getD, List.getElem?_eq_getElem (by rw [hyr.len]; exact him)]; exact List.getElem_mem _)
              generalize cs.getD i 0 = q at y0 hyl
              have i0 : (0 : Int) ≤ (i : Int) := by omega
              have i1 : (i : Int) < (cn : Int) := by omega
              clear hc hyr
              rcases (by omega : n0 < q ∨ n0 = q ∨ q < n0) with hq | hq | hq
              · have mn : ¬ q < n0 := by omega
                have haN : k + n0 ≤ N := by omega
                have hsl := fun wz => run_midB wz A3 N c3 k n0 (by have := HO.out.own.le; omega)
                have hown0 : OwnV (wq.alloc (.cells #[] 5)) wq.heap.size (some ⟨wq.heap.size, 0, none⟩) 0 0 [] := OwnV.lit wq [] 5 (by unfold maxLen; simp)
                have HO0 := Lib.hid hown0
                have hmid := (HO.out.own.arg' (HBA.out)).mid haN
                have HPC := Lib.hid (hmid.below ((Below.refl _ wq).alloc (Nat.le_refl _) (.cells #[] 5))).src
                have HFN : Hid (frB A3 c3 k = none → c3 - k = 0) := Lib.hid (fun e => (hmid.none_ e).2)
                have hpl : ((all.drop k).take n0).length = n0 := by rw [List.length_take, List.length_drop, HAL.out]; omega
                have HPL := Lib.hid hpl
                have HLA : Hid (k + n0 ≤ N ∧ (k + n0 < N → i + 1 ≤ 200)) := Lib.hid ⟨haN, by have := HN0.out; omega⟩
                have hk1 : (0 + n0) * 1 ≤ 211106232532992 := by omega
                clear hown0 hmid hpl
                go_wp2_with (refine wpList_append_w Try.underlying22 hi8 hy0 hy1 hy2 rfl rfl (.tmp 96) (.tmp 102) rfl rfl HO0.out (frB A3 c3 k) n0 (c3 - k) (((all.drop k).take n0).map V8) rfl HPC.out HFN.out (by omega) hk1 (by simp) ?_)
                intro X6 xc6 w6 hx hf6 hg6
                have hb6 : Below wq.heap.size wq w6 := ((Below.refl _ wq).alloc (Nat.le_refl _) (.cells #[] 5)).trans (hf6.below (by simp) (fun y hy => by simp [bkV] at hy; omega))
                have hx6 : OwnV w6 wq.heap.size X6 n0 xc6 (((all.drop k).take n0).map V8) := by simpa using hx
                have HFD := Lib.hid ((HO.out.below hb6).feed HG.out HGL.out (by rw [HAL.out]; omega) X6 xc6 (hx6.arg' (fun z hz => HBA.out z (List.mem_of_mem_drop (List.mem_of_mem_take hz)))))
                have e0k : 0 + n0 = n0 := Nat.zero_add _
                clear hx hf6 hg6 hb6 hx6 HO0 HPC HFN hsl hk1
                go_wp2_with fail
                with_reducible refine (HFD.out).mono ?_
                rintro e w7 ⟨D', f, rfl, hf, ho7⟩
                have HREL : Hid (OrJ w cb rb A3 N c3 all S1 m d sent (.int .i64 ((k : Int) + (n0 : Int))) (.int .i64 ((i + 1 : Nat) : Int)) w7) := Lib.hid ⟨k + n0, i + 1, D', HLA.out.1, by push_cast; rfl, rfl, by omega, fun h => by have := HLA.out.2 h; omega, ho7⟩
                clear ho7 HFD
                rcases hf with rfl | rfl
                · go_wp2
                  go_roundw
                  case rel => have := HREL.out; simpa using this
                  case measure => have := HN0.out; simp [intOf]; omega
                · go_wp2
                  go_roundw
                  case rel => have := HREL.out; simpa using this
                  case measure => have := HN0.out; simp [intOf]; omega
              · subst hq
                have haN : k + n0 ≤ N := by omega
                have hsl := fun wz => run_midB wz A3 N c3 k n0 (by have := HO.out.own.le; omega)
                have hown0 : OwnV (wq.alloc (.cells #[] 5)) wq.heap.size (some ⟨wq.heap.size, 0, none⟩) 0 0 [] := OwnV.lit wq [] 5 (by unfold maxLen; simp)
                have HO0 := Lib.hid hown0
                have hmid := (HO.out.own.arg' (HBA.out)).mid haN
                have HPC := Lib.hid (hmid.below ((Below.refl _ wq).alloc (Nat.le_refl _) (.cells #[] 5))).src
                have HFN : Hid (frB A3 c3 k = none → c3 - k = 0) := Lib.hid (fun e => (hmid.none_ e).2)
                have hpl : ((all.drop k).take n0).length = n0 := by rw [List.length_take, List.length_drop, HAL.out]; omega
                have HPL := Lib.hid hpl
                have HLA : Hid (k + n0 ≤ N ∧ (k + n0 < N → i + 1 ≤ 200)) := Lib.hid ⟨haN, by have := HN0.out; omega⟩
                have hk1 : (0 + n0) * 1 ≤ 211106232532992 := by omega
                clear hown0 hmid hpl
                go_wp2_with (refine wpList_append_w Try.underlying22 hi8 hy0 hy1 hy2 rfl rfl (.tmp 96) (.tmp 102) rfl rfl HO0.out (frB A3 c3 k) n0 (c3 - k) (((all.drop k).take n0).map V8) rfl HPC.out HFN.out (by omega) hk1 (by simp) ?_)
                intro X6 xc6 w6 hx hf6 hg6
                have hb6 : Below wq.heap.size wq w6 := ((Below.refl _ wq).alloc (Nat.le_refl _) (.cells #[] 5)).trans (hf6.below (by simp) (fun y hy => by simp [bkV] at hy; omega))
                have hx6 : OwnV w6 wq.heap.size X6 n0 xc6 (((all.drop k).take n0).map V8) := by simpa using hx
                have HFD := Lib.hid ((HO.out.below hb6).feed HG.out HGL.out (by rw [HAL.out]; omega) X6 xc6 (hx6.arg' (fun z hz => HBA.out z (List.mem_of_mem_drop (List.mem_of_mem_take hz)))))
                have e0k : 0 + n0 = n0 := Nat.zero_add _
                clear hx hf6 hg6 hb6 hx6 HO0 HPC HFN hsl hk1
                go_wp2_with fail
                with_reducible refine (HFD.out).mono ?_
                rintro e w7 ⟨D', f, rfl, hf, ho7⟩
                have HREL : Hid (OrJ w cb rb A3 N c3 all S1 m d sent (.int .i64 ((k : Int) + (n0 : Int))) (.int .i64 ((i + 1 : Nat) : Int)) w7) := Lib.hid ⟨k + n0, i + 1, D', HLA.out.1, by push_cast; rfl, rfl, by omega, fun h => by have := HLA.out.2 h; omega, ho7⟩
                clear ho7 HFD
                rcases hf with rfl | rfl
                · go_wp2
                  go_roundw
                  case rel => have := HREL.out; simpa using this
                  case measure => have := HN0.out; simp [intOf]; omega
                · go_wp2
                  go_roundw
                  case rel => have := HREL.out; simpa using this
                  case measure => have := HN0.out; simp [intOf]; omega
              · have mn : q < n0 := hq
                have haN : k + q ≤ N := by omega
                have hsl := fun wz => run_midB wz A3 N c3 k q (by have := HO.out.own.le; omega)
                have hown0 : OwnV (wq.alloc (.cells #[] 5)) wq.heap.size (some ⟨wq.heap.size, 0, none⟩) 0 0 [] := OwnV.lit wq [] 5 (by unfold maxLen; simp)
                have HO0 := Lib.hid hown0
                have hmid := (HO.out.own.arg' (HBA.out)).mid haN
                have HPC := Lib.hid (hmid.below ((Below.refl _ wq).alloc (Nat.le_refl _) (.cells #[] 5))).src
                have HFN : Hid (frB A3 c3 k = none → c3 - k = 0) := Lib.hid (fun e => (hmid.none_ e).2)
                have hpl : ((all.drop k).take q).length = q := by rw [List.length_take, List.length_drop, HAL.out]; omega
                have HPL := Lib.hid hpl
                have HLA : Hid (k + q ≤ N ∧ (k + q < N → i + 1 ≤ 200)) := Lib.hid ⟨haN, by omega⟩
                have hk1 : (0 + q) * 1 ≤ 211106232532992 := by omega
                clear hown0 hmid hpl
                go_wp2_with (refine wpList_append_w Try.underlying22 hi8 hy0 hy1 hy2 rfl rfl (.tmp 96) (.tmp 102) rfl rfl HO0.out (frB A3 c3 k) q (c3 - k) (((all.drop k).take q).map V8) rfl HPC.out HFN.out (by omega) hk1 (by simp) ?_)
                intro X6 xc6 w6 hx hf6 hg6
                have hb6 : Below wq.heap.size wq w6 := ((Below.refl _ wq).alloc (Nat.le_refl _) (.cells #[] 5)).trans (hf6.below (by simp) (fun y hy => by simp [bkV] at hy; omega))
                have hx6 : OwnV w6 wq.heap.size X6 q xc6 (((all.drop k).take q).map V8) := by simpa using hx
                have HFD := Lib.hid ((HO.out.below hb6).feed HG.out HGL.out (by rw [HAL.out]; omega) X6 xc6 (hx6.arg' (fun z hz => HBA.out z (List.mem_of_mem_drop (List.mem_of_mem_take hz)))))
                have e0k : 0 + q = q := Nat.zero_add _
                clear hx hf6 hg6 hb6 hx6 HO0 HPC HFN hsl hk1
                go_wp2_with fail
                with_reducible refine (HFD.out).mono ?_
                rintro e w7 ⟨D', f, rfl, hf, ho7⟩
                have HREL : Hid (OrJ w cb rb A3 N c3 all S1 m d sent (.int .i64 ((k : Int) + (q : Int))) (.int .i64 ((i + 1 : Nat) : Int)) w7) := Lib.hid ⟨k + q, i + 1, D', HLA.out.1, by push_cast; rfl, rfl, by omega, fun h => by have := HLA.out.2 h; omega, ho7⟩
                clear ho7 HFD
                rcases hf with rfl | rfl
                · go_wp2
                  go_roundw
                  case rel => have := HREL.out; simpa using this
                  case measure => have := HN0.out; simp [intOf]; omega
                · go_wp2
                  go_roundw
                  case rel => have := HREL.out; simpa using this
                  case measure => have := HN0.out; simp [intOf]; omega
            · have e1 : decide ((i : Int) < (cn : Int)) = true := by simp; omega
              have e2 : decide ((i : Int) < 200) = false := by simp; omega
              have i0 : (0 : Int) ≤ (i : Int) := by omega
              have haN : k + n0 ≤ N := by omega
              have hsl := fun wz => run_midB wz A3 N c3 k n0 (by have := HO.out.own.le; omega)
              have hown0 : OwnV (wq.alloc (.cells #[] 5)) wq.heap.size (some ⟨wq.heap.size, 0, none⟩) 0 0 [] := OwnV.lit wq [] 5 (by unfold maxLen; simp)
              have HO0 := Lib.hid hown0
              have hmid := (HO.out.own.arg' (HBA.out)).mid haN
              have HPC := Lib.hid (hmid.below ((Below.refl _ wq).alloc (Nat.le_refl _) (.cells #[] 5))).src
              have HFN : Hid (frB A3 c3 k = none → c3 - k = 0) := Lib.hid (fun e => (hmid.none_ e).2)
              have hpl : ((all.drop k).take n0).length = n0 := by rw [List.length_take, List.length_drop, HAL.out]; omega
              have HPL := Lib.hid hpl
              have HLA : Hid (k + n0 ≤ N ∧ (k + n0 < N → i + 1 ≤ 200)) := Lib.hid ⟨haN, by have := HN0.out; omega⟩
              have hk1 : (0 + n0) * 1 ≤ 211106232532992 := by omega
              clear hown0 hmid hpl
              go_wp2_with (refine wpList_append_w Try.underlying22 hi8 hy0 hy1 hy2 rfl rfl (.tmp 96) (.tmp 102) rfl rfl HO0.out (frB A3 c3 k) n0 (c3 - k) (((all.drop k).take n0).map V8) rfl HPC.out HFN.out (by omega) hk1 (by simp) ?_)
              intro X6 xc6 w6 hx hf6 hg6
              have hb6 : Below wq.heap.size wq w6 := ((Below.refl _ wq).alloc (Nat.le_refl _) (.cells #[] 5)).trans (hf6.below (by simp) (fun y hy => by simp [bkV] at hy; omega))
              have hx6 : OwnV w6 wq.heap.size X6 n0 xc6 (((all.drop k).take n0).map V8) := by simpa using hx
              have HFD := Lib.hid ((HO.out.below hb6).feed HG.out HGL.out (by rw [HAL.out]; omega) X6 xc6 (hx6.arg' (fun z hz => HBA.out z (List.mem_of_mem_drop (List.mem_of_mem_take hz)))))
              have e0k : 0 + n0 = n0 := Nat.zero_add _
              clear hx hf6 hg6 hb6 hx6 HO0 HPC HFN hsl hk1
              go_wp2_with fail
              with_reducible refine (HFD.out).mono ?_
              rintro e w7 ⟨D', f, rfl, hf, ho7⟩
              have HREL : Hid (OrJ w cb rb A3 N c3 all S1 m d sent (.int .i64 ((k : Int) + (n0 : Int))) (.int .i64 ((i + 1 : Nat) : Int)) w7) := Lib.hid ⟨k + n0, i + 1, D', HLA.out.1, by push_cast; rfl, rfl, by omega, fun h => by have := HLA.out.2 h; omega, ho7⟩
              clear ho7 HFD
              rcases hf with rfl | rfl
              · go_wp2
                go_roundw
                case rel => have := HREL.out; simpa using this
                case measure => have := HN0.out; simp [intOf]; omega
              · go_wp2
                go_roundw
                case rel => have := HREL.out; simpa using this
                case measure => have := HN0.out; simp [intOf]; omega
          · have e1 : decide ((i : Int) < (cn : Int)) = false := by simp; omega
            have i0 : (0 : Int) ≤ (i : Int) := by omega
            have haN : k + n0 ≤ N := by omega
            have hsl := fun wz => run_midB wz A3 N c3 k n0 (by have := HO.out.own.le; omega)
            have hown0 : OwnV (wq.alloc (.cells #[] 5)) wq.heap.size (some ⟨wq.heap.size, 0, none⟩) 0 0 [] := OwnV.lit wq [] 5 (by unfold maxLen; simp)
            have HO0 := Lib.hid hown0
            have hmid := (HO.out.own.arg' (HBA.out)).mid haN
            have HPC := Lib.hid (hmid.below ((Below.refl _ wq).alloc (Nat.le_refl _) (.cells #[] 5))).src
            have HFN : Hid (frB A3 c3 k = none → c3 - k = 0) := Lib.hid (fun e => (hmid.none_ e).2)
            have hpl : ((all.drop k).take n0).length = n0 := by rw [List.length_take, List.length_drop, HAL.out]; omega
            have HPL := Lib.hid hpl
            have HLA : Hid (k + n0 ≤ N ∧ (k + n0 < N → i + 1 ≤ 200)) := Lib.hid ⟨haN, by have := HN0.out; omega⟩
            have hk1 : (0 + n0) * 1 ≤ 211106232532992 := by omega
            clear hown0 hmid hpl
            go_wp2_with (refine wpList_append_w Try.underlying22 hi8 hy0 hy1 hy2 rfl rfl (.tmp 96) (.tmp 102) rfl rfl HO0.out (frB A3 c3 k) n0 (c3 - k) (((all.drop k).take n0).map V8) rfl HPC.out HFN.out (by omega) hk1 (by simp) ?_)
            intro X6 xc6 w6 hx hf6 hg6
            have hb6 : Below wq.heap.size wq w6 := ((Below.refl _ wq).alloc (Nat.le_refl _) (.cells #[] 5)).trans (hf6.below (by simp) (fun y hy => by simp [bkV] at hy; omega))
            have hx6 : OwnV w6 wq.heap.size X6 n0 xc6 (((all.drop k).take n0).map V8) := by simpa using hx
            have HFD := Lib.hid ((HO.out.below hb6).feed HG.out HGL.out (by rw [HAL.out]; omega) X6 xc6 (hx6.arg' (fun z hz => HBA.out z (List.mem_of_mem_drop (List.mem_of_mem_take hz)))))
            have e0k : 0 + n0 = n0 := Nat.zero_add _
            clear hx hf6 hg6 hb6 hx6 HO0 HPC HFN hsl hk1
            go_wp2_with fail
            with_reducible refine (HFD.out).mono ?_
            rintro e w7 ⟨D', f, rfl, hf, ho7⟩
            have HREL : Hid (OrJ w cb rb A3 N c3 all S1 m d sent (.int .i64 ((k : Int) + (n0 : Int))) (.int .i64 ((i + 1 : Nat) : Int)) w7) := Lib.hid ⟨k + n0, i + 1, D', HLA.out.1, by push_cast; rfl, rfl, by omega, fun h => by have := HLA.out.2 h; omega, ho7⟩
            clear ho7 HFD
            rcases hf with rfl | rfl
            · go_wp2
              go_roundw
              case rel => have := HREL.out; simpa using this
              case measure => have := HN0.out; simp [intOf]; omega
            · go_wp2
              go_roundw
              case rel => have := HREL.out; simpa using this
              case measure => have := HN0.out; simp [intOf]; omega
        · obtain rfl : k = N := by omega
          have j2 : ¬ (k : Int) < (k : Int) := by omega
          have hall : all.take k = (sent.map ClR.v |>.map rqF).flatten ++ ([0, 0, 0, 0] ++ ss) := by
            rw [List.take_of_length_le (by rw [HAL.out]; exact Nat.le_refl _), ← HALL.out, ← HALL0.out, List.append_assoc]; rfl
          have hod := HO.out.od
          rw [hall] at hod
          obtain ⟨hoe, hus, htk⟩ := ord_all rb D (sent.map ClR.v) ss (fun x hx => by obtain ⟨r, hr, rfl⟩ := List.mem_map.1 hx; exact HSO.out r hr) hod
          obtain ⟨xs, hxs⟩ : ∃ xs, (sent.map ClR.v).map usedV = xs := ⟨_, rfl⟩
          rw [hxs] at hoe
          have HXL : Hid (xs.length = m) := Lib.hid (by rw [← hxs, List.length_map, List.length_map]; exact HMS.out.symm)
          have HXO : Hid (∀ (i : Nat) (hx : i < xs.length) (hs : i < sent.length), (sent.getD i noCl).o = xs[i].o ∧ xs[i].ks.length ≤ 255) := Lib.hid (by
            intro i hx hs
            subst hxs
            rw [List.getElem_map, List.getElem_map, List.getD_eq_getElem?_getD, List.getElem?_eq_getElem hs]
            exact ⟨(usedV_o (sent[i]).v).symm, usedV_kl (x := (sent[i]).v) (HSO.out _ (List.getElem_mem _))⟩)
          have h30 : Or3 w wq cb S1 m d sent none 0 0 [] none 0 0 [] [] D := ⟨HO.out.oc.sub (fun y hy => by simp only [bkV, List.append_nil] at hy; exact List.mem_append_right _ hy), HO.out.snt, OwnV.nil _ _, OwnV.nil _ _, by simp [bkV], by simp [bkV], by simp, by simp⟩
          have HST3 : Hid (OrK w cb S1 m d sent xs (.slice none 0 0) (.slice none 0 0) (.int .i64 0) wq) := Lib.hid ⟨0, none, 0, 0, [], none, 0, 0, [], D, Nat.zero_le _, rfl, rfl, rfl, h30, by rw [List.drop_zero]; exact hoe, by rw [hus]; rfl, by rw [htk]; exact Nat.le_refl _, rfl⟩
          have hmb : m ≤ 20 := HMX.out.1
          clear hall hod hoe hus htk hxs h30 HO HG HGL HBA
          go_wp2_with fail
          go_loopw [10, 20, 116] (fun wv gv iv wr => OrK w cb S1 m d sent xs wv gv iv wr) (fun _ _ iv _ => m - (intOf iv).toNat)
          case atStart => exact HST3.out
          case round =>
            obtain ⟨i, GA, gn, gc, got, PA, pn, pc, want, D, hi, rfl, rfl, rfl, ho, hoe, heq, htl, hwl⟩ := hrel
            have HO := Lib.hid ho
            have HOE := Lib.hid hoe
            have HEQ := Lib.hid heq
            have HTL := Lib.hid htl
            have HWL := Lib.hid hwl
            clear ho hoe heq htl hwl HST3
            rename World => wq
            rcases Nat.lt_or_ge i m with h1 | h1
            · have hxl : i < xs.length := by rw [HXL.out]; exact h1
              obtain ⟨x, hx⟩ : ∃ x, xs[i] = x := ⟨_, rfl⟩
              have hdrop : xs.drop i = x :: xs.drop (i + 1) := by rw [← hx]; exact List.drop_eq_getElem_cons hxl
              have hsl : i < sent.length := by rw [← HMS.out]; exact h1
              have hxo := HXO.out i hxl hsl
              rw [hx] at hxo
              obtain ⟨k, hk⟩ : ∃ k, x.ks.length = k := ⟨_, rfl⟩
              have HNX := Lib.hid (HO.out.next x (xs.drop (i + 1)) (by rw [← hdrop]; exact HOE.out) k hk (by rw [← hk]; exact hxo.2))
              have HXO1 := Lib.hid hxo.1
              have HRL := Lib.hid (show (xs.drop (i + 1)).length + 1 + i = m by rw [List.length_drop, HXL.out]; omega)
              have i0 : (0 : Int) ≤ (i : Int) := by omega
              have i1 : (i : Int) < (m : Int) := by omega
              clear hdrop hx hxo hk
              go_wp2_with fail
              with_reducible refine (HNX.out).mono ?_
              rintro e w3 ⟨KB, kc, D3, q, rfl, ho3, hob, hrow, hfin, hcl, hus, htk⟩
              have bA := (Below.refl w3.heap.size w3).alloc (Nat.le_refl _) (.cells #[.int .u8 x.o, .int .i64 x.p, .slice KB k kc, .int .i64 x.s] 71)
              have kA := BlkL.new w3 [.int .u8 x.o, .int .i64 x.p, .slice KB k kc, .int .i64 x.s] 71
              have ho4 := ho3.below bA
              obtain ⟨r0, hr0⟩ : ∃ r0, D3.rows.length = r0 := ⟨_, rfl⟩
              have hrl : r0 + 1 + i = m := by have e1 := congrArg List.length hrow; rw [List.length_map, hr0] at e1; rw [e1]; exact HRL.out
              have s1 : (m : Int) - 1 - (i : Int) = (r0 : Int) := by omega
              have g2 : ((r0 : Int) != (r0 : Int)) = false := by simp
              have g1 : ((x.o : Int) != (x.o : Int)) = false := by simp
              obtain ⟨bS, oS, eS, hS1, hS2, hcS, _⟩ := ho4.snt.cell (by omega)
              have a1 : (w3.alloc (.cells #[.int .u8 x.o, .int .i64 x.p, .slice KB k kc, .int .i64 x.s] 71)).cell? ⟨bS, oS + i * 4, none⟩ = some (.int .u8 x.o) := by
                have := hcS (i * 4) _ (FCl_at sent i hsl)
                rw [this, HXO1.out]
              have a0 := kA.cell 0 _ rfl
              have al := kA.lt
              have HWT : Hid (∀ t, Calls Try.prog 57 #[.pointer (some ⟨cb, 0, none⟩)] ((w3.alloc (.cells #[.int .u8 x.o, .int .i64 x.p, .slice KB k kc, .int .i64 x.s] 71)).drewN t) fun e w' => e = .returned (.int .i64 (r0 : Nat)) ∧ w' = (w3.alloc (.cells #[.int .u8 x.o, .int .i64 x.p, .slice KB k kc, .int .i64 x.s] 71)).drewN t) := Lib.hid (fun t => by
                have := cn_waiting _ _ cb D3 (ho4.below (below_drewN (Below.refl _ _) t)).oc.cn
                rw [hr0] at this
                exact this.mono fun _ _ ⟨g1, g2⟩ => ⟨g1, g2.symm⟩)
              have HO4 := Lib.hid ho4
              have HP3 := Lib.hid (And.intro hob (And.intro hrow (And.intro hfin (And.intro hcl (And.intro hus htk)))))
              have HES := Lib.hid eS
              subst eS
              clear bA kA ho3 ho4 hob hrow hfin hcl hus htk hr0 hrl hcS HNX hS1 hS2
              go_upto_region 32 with (fail)
              go_quiet (first | (go_at_call 57; with_reducible exact Calls.quiet_of_same (HWT.out _)))
              have HOZ' := HO4.out.below (below_drewN (Below.refl _ _) nq)
              generalize ((w3.alloc (.cells #[.int .u8 x.o, .int .i64 x.p, .slice KB k kc, .int .i64 x.s] 71)).drewN nq) = wz at *
              have HOZ := Lib.hid HOZ'
              have kz := BlkL.new wz [.int .i64 0, .bool false, .int .i64 (i : Int), .int .i64 0, .int .i64 0, .int .i64 0] 82
              have bz := (Below.refl wz.heap.size wz).alloc (Nat.le_refl _) (.cells #[.int .i64 0, .bool false, .int .i64 (i : Int), .int .i64 0, .int .i64 0, .int .i64 0] 82)
              have HR0 : Hid (RpV.ok ⟨0, false, (i : Int), 0, 0, 0⟩ = true) := Lib.hid (by simp [RpV.ok, RpV.eB, tkB]; omega)
              clear HOZ' HWT HO4 a0 a1 al g1 g2 s1
              rcases Nat.lt_or_ge i rn with hrn | hrn
              · obtain ⟨bR, oR, rfl, hbR, hcR⟩ := (HR.out.below HOZ.out.oc.bw).at_ (by omega)
                obtain ⟨r, hr⟩ : ∃ r, RL.getD i noRp = r := ⟨_, rfl⟩
                have hbl := (bz.cell (p := ⟨bR, oR, none⟩) )
                have cel : ∀ j v, r.cells[j]? = some v → (wz.alloc (.cells #[.int .i64 0, .bool false, .int .i64 (i : Int), .int .i64 0, .int .i64 0, .int .i64 0] 82)).cell? ⟨bR, oR + i * 6 + j, none⟩ = some v := fun j v hv => (bz.cell (p := ⟨bR, oR + i * 6 + j, none⟩) (Nat.lt_of_lt_of_le hbR HOZ.out.oc.hB)).trans (hcR i j v hrn (by rw [hr]; exact hv))
                have y0 : (wz.alloc (.cells #[.int .i64 0, .bool false, .int .i64 (i : Int), .int .i64 0, .int .i64 0, .int .i64 0] 82)).cell? ⟨bR, oR + i * 6, none⟩ = some (.int .i64 r.E) := cel 0 _ rfl
                have y1 : (wz.alloc (.cells #[.int .i64 0, .bool false, .int .i64 (i : Int), .int .i64 0, .int .i64 0, .int .i64 0] 82)).cell? ⟨bR, oR + i * 6 + 1, none⟩ = some (.bool r.G) := cel 1 _ rfl
                have y2 : (wz.alloc (.cells #[.int .i64 0, .bool false, .int .i64 (i : Int), .int .i64 0, .int .i64 0, .int .i64 0] 82)).cell? ⟨bR, oR + i * 6 + 2, none⟩ = some (.int .i64 r.a) := cel 2 _ rfl
                have y3 : (wz.alloc (.cells #[.int .i64 0, .bool false, .int .i64 (i : Int), .int .i64 0, .int .i64 0, .int .i64 0] 82)).cell? ⟨bR, oR + i * 6 + 3, none⟩ = some (.int .i64 r.b) := cel 3 _ rfl
                have y4 : (wz.alloc (.cells #[.int .i64 0, .bool false, .int .i64 (i : Int), .int .i64 0, .int .i64 0, .int .i64 0] 82)).cell? ⟨bR, oR + i * 6 + 4, none⟩ = some (.int .i64 r.c) := cel 4 _ rfl
                have y5 : (wz.alloc (.cells #[.int .i64 0, .bool false, .int .i64 (i : Int), .int .i64 0, .int .i64 0, .int .i64 0] 82)).cell? ⟨bR, oR + i * 6 + 5, none⟩ = some (.int .i64 r.d) := cel 5 _ rfl
                have HCEL := Lib.hid cel
                have HBR := Lib.hid hbR
                have d1 : decide ((i : Int) < (rn : Int)) = true := by simp; omega
                have j1 : (i : Int) < (rn : Int) := by omega
                have HKZ := Lib.hid kz
                have HBZ := Lib.hid bz
                have HRA := Lib.hid (reply_anyF (wz.alloc (.cells #[.int .i64 0, .bool false, .int .i64 (i : Int), .int .i64 0, .int .i64 0, .int .i64 0] 82)) r)
                clear kz bz hcR hbl cel hr hbR
                by_cases hok : r.ok = true
                · unfold RpF at HRA
                  rw [hok] at HRA
                  have HRO := Lib.hid hok
                  clear hok
                  go_wp2_with fail
                  with_reducible refine (HRA.out).mono ?_
                  rintro e w5 ⟨XA0, xn0, xc0, rfl, hx0, hb5⟩
                  have HB5 := Lib.hid (HBZ.out.trans (hb5.mono HBZ.out.size))
                  have k5 := HKZ.out.below hb5
                  have l5 := k5.lt
                  have f0 := k5.froz 0 (by simp)
                  have f1 := k5.froz 1 (by simp)
                  have f2 := k5.froz 2 (by simp)
                  have f3 := k5.froz 3 (by simp)
                  have f4 := k5.froz 4 (by simp)
                  have f5 := k5.froz 5 (by simp)
                  have z0 := k5.cell 0 _ rfl
                  have z1 := k5.cell 1 _ rfl
                  have z2 := k5.cell 2 _ rfl
                  have z3 := k5.cell 3 _ rfl
                  have z4 := k5.cell 4 _ rfl
                  have z5 := k5.cell 5 _ rfl
                  have HK5 := Lib.hid k5
                  have cel5 : ∀ j v, r.cells[j]? = some v → w5.cell? ⟨bR, oR + i * 6 + j, none⟩ = some v := fun j v hv => (hb5.cell (p := ⟨bR, oR + i * 6 + j, none⟩) (by have := HBR.out; have := HOZ.out.oc.hB; simp; omega)).trans (HCEL.out j v hv)
                  have y0 : w5.cell? ⟨bR, oR + i * 6, none⟩ = some (.int .i64 r.E) := cel5 0 _ rfl
                  have y1 : w5.cell? ⟨bR, oR + i * 6 + 1, none⟩ = some (.bool r.G) := cel5 1 _ rfl
                  have y2 : w5.cell? ⟨bR, oR + i * 6 + 2, none⟩ = some (.int .i64 r.a) := cel5 2 _ rfl
                  have y3 : w5.cell? ⟨bR, oR + i * 6 + 3, none⟩ = some (.int .i64 r.b) := cel5 3 _ rfl
                  have y4 : w5.cell? ⟨bR, oR + i * 6 + 4, none⟩ = some (.int .i64 r.c) := cel5 4 _ rfl
                  have y5 : w5.cell? ⟨bR, oR + i * 6 + 5, none⟩ = some (.int .i64 r.d) := cel5 5 _ rfl
                  have hne : bR ≠ wz.heap.size := by have := HBR.out; have := HOZ.out.oc.hB; omega
                  clear hx0 hb5 k5 HRA HKZ HBZ cel5
                  go_upto_region 39 with (fail)
                  have ot := HOZ.out.below (W' := ((((((w5.setCell ⟨wz.heap.size, 0, none⟩ (.int .i64 r.E)).setCell ⟨wz.heap.size, 1, none⟩ (.bool r.G)).setCell ⟨wz.heap.size, 2, none⟩ (.int .i64 r.a)).setCell ⟨wz.heap.size, 3, none⟩ (.int .i64 r.b)).setCell ⟨wz.heap.size, 4, none⟩ (.int .i64 r.c)).setCell ⟨wz.heap.size, 5, none⟩ (.int .i64 r.d))) (Off.below (S := [wz.heap.size]) (B := wz.heap.size) (((((((Off.of_below HB5.out).setCell (p := ⟨wz.heap.size, 0, none⟩) (by simp) _).setCell (p := ⟨wz.heap.size, 1, none⟩) (by simp) _).setCell (p := ⟨wz.heap.size, 2, none⟩) (by simp) _).setCell (p := ⟨wz.heap.size, 3, none⟩) (by simp) _).setCell (p := ⟨wz.heap.size, 4, none⟩) (by simp) _).setCell (p := ⟨wz.heap.size, 5, none⟩) (by simp) _) (Nat.le_refl _) (by simp))
                  have kt : BlkL ((((((w5.setCell ⟨wz.heap.size, 0, none⟩ (.int .i64 r.E)).setCell ⟨wz.heap.size, 1, none⟩ (.bool r.G)).setCell ⟨wz.heap.size, 2, none⟩ (.int .i64 r.a)).setCell ⟨wz.heap.size, 3, none⟩ (.int .i64 r.b)).setCell ⟨wz.heap.size, 4, none⟩ (.int .i64 r.c)).setCell ⟨wz.heap.size, 5, none⟩ (.int .i64 r.d)) wz.heap.size r.cells := (((((HK5.out.set 0 (.int .i64 r.E) (by simp)).set 1 (.bool r.G) (by simp)).set 2 (.int .i64 r.a) (by simp)).set 3 (.int .i64 r.b) (by simp)).set 4 (.int .i64 r.c) (by simp)).set 5 (.int .i64 r.d) (by simp)
                  clear f0 f1 f2 f3 f4 f5 z0 z1 z2 z3 z4 z5 y0 y1 y2 y3 y4 y5 l5 HB5 HK5 HCEL
                  generalize ((((((w5.setCell ⟨wz.heap.size, 0, none⟩ (.int .i64 r.E)).setCell ⟨wz.heap.size, 1, none⟩ (.bool r.G)).setCell ⟨wz.heap.size, 2, none⟩ (.int .i64 r.a)).setCell ⟨wz.heap.size, 3, none⟩ (.int .i64 r.b)).setCell ⟨wz.heap.size, 4, none⟩ (.int .i64 r.c)).setCell ⟨wz.heap.size, 5, none⟩ (.int .i64 r.d)) = wt at *
                  have t0 := kt.cell 0 _ rfl
                  have t1 := kt.cell 1 _ rfl
                  have t2 := kt.cell 2 _ rfl
                  have t3 := kt.cell 3 _ rfl
                  have t4 := kt.cell 4 _ rfl
                  have t5 := kt.cell 5 _ rfl
                  have tl := kt.lt
                  have HOT := Lib.hid ot
                  have HKT := Lib.hid kt
                  have HR1 := Lib.hid (reply_goodF wt r HRO.out)
                  clear ot kt
                  go_wp2_with fail
                  with_reducible refine (HR1.out).mono ?_
                  rintro e w6 ⟨XA, xc, rfl, hox, hb6⟩
                  have HF1 := Lib.hid (fenc_good w6 _ XA 34 xc (r).bytes (hox.arg' (rp_byte HRO.out)) (Nat.le_refl _) (by omega) (by omega))
                  have HO6 := Lib.hid (HOT.out.below hb6)
                  have HK6 := Lib.hid (HKT.out.below hb6)
                  clear hox hb6 HR1 t0 t1 t2 t3 t4 t5 tl HOT HKT
                  go_wp2_with fail
                  with_reducible refine (HF1.out).mono ?_
                  rintro e w7 ⟨F, fc, rfl, hof, hb7⟩
                  have hofv := hof.ownV
                  have HO7 := Lib.hid (HO6.out.newZ (Z' := bkV F) hb7 (fun y hy => hofv.lt y hy))
                  have HFV := Lib.hid (hofv.mono (Nat.le_trans HO6.out.oc.hB (Nat.le_refl _)))
                  have k7 := HK6.out.below hb7
                  have t0 := k7.cell 0 _ rfl
                  have t1 := k7.cell 1 _ rfl
                  have t2 := k7.cell 2 _ rfl
                  have t3 := k7.cell 3 _ rfl
                  have t4 := k7.cell 4 _ rfl
                  have t5 := k7.cell 5 _ rfl
                  have tl := k7.lt
                  have HRP := Lib.hid (HO7.out.reply q HP3.out.1 _ HP3.out.2.1 HP3.out.2.2.1 HP3.out.2.2.2.1 r HRO.out i (by rw [HP3.out.2.2.2.2.2]; exact HTL.out) (by omega) (by rw [HP3.out.2.2.2.2.1]; have h1 := congrArg List.length HEQ.out; rw [List.length_append] at h1; have := HWL.out; omega))
                  clear hof hb7 hofv HF1 HO6 HK6 k7
                  go_wp2_with fail
                  with_reducible refine (HRP.out).mono ?_
                  rintro e w8 ⟨D8, rfl, ho8, hoe8, hus8, htl8, hF8⟩
                  have hf8 := hF8 _ _ _ _ HFV.out (fun y hy => hy)
                  have hby8 : ∀ z ∈ Fr.encV (r).bytes, z < 256 := encV_byte (rp_byte HRO.out)
                  have hsF := (hf8.arg' hby8).src
                  have hsN : F = none → fc = 0 := fun e => (hf8.none_ e).2
                  have HO8 := Lib.hid ho8
                  have HS8 := Lib.hid hsF
                  have HN8 := Lib.hid hsN
                  have HB8 := Lib.hid ho8.oc.hB
                  have HP8 := Lib.hid (And.intro hoe8 (And.intro hus8 htl8))
                  have HBY8 := Lib.hid hby8
                  have hpn : (pn + 38) * 1 ≤ 211106232532992 := by have h1 := HO7.out.wa.len; rw [List.length_map] at h1; have := HWL.out; omega
                  clear ho8 hoe8 hus8 htl8 hF8 hf8 hby8 hsF hsN HRP HO7 HFV t0 t1 t2 t3 t4 t5 tl
                  go_wp2_with (refine wpList_append_w Try.underlying22 hi8 hy0 hy1 hy2 rfl rfl (.tmp 184) (.tmp 185) rfl rfl HO8.out.wa F 38 fc ((Fr.encV (r).bytes).map V8) rfl HS8.out HN8.out (by omega) hpn HB8.out ?_)
                  intro PA' pc' w9 ho9 hf9 hg9
                  have HO9 := Lib.hid (HO8.out.wapp (want' := want ++ Fr.encV (r).bytes) (by rw [List.map_append]; exact ho9) hf9 hg9 (fun z hz => (List.mem_append.1 hz).elim (HO8.out.wb z) (HBY8.out z)))
                  have HE9 : Hid (got ++ D8.us = want ++ Fr.encV (r).bytes ∧ (want ++ Fr.encV (r).bytes).length = 38 * (i + 1)) := Lib.hid ⟨by rw [HP8.out.2.1, HP3.out.2.2.2.2.1, ← List.append_assoc, HEQ.out], by rw [List.length_append, HWL.out, encV_length, RpV.len]; omega⟩
                  clear ho9 hf9 hg9 HO8 HS8 HN8 HB8 hpn
                  rcases (by omega : i % 2 = 0 ∨ i % 2 = 1) with hp | hp
                  · have v2 : Int.tmod (i : Int) 2 = 0 := by rw [Int.tmod_eq_emod_of_nonneg (by omega)]; omega
                    obtain ⟨ul, hul⟩ : ∃ ul, D8.us.length = ul := ⟨_, rfl⟩
                    have HTK := Lib.hid (HO9.out.take ul hul)
                    have hgn : (gn + ul) * 1 ≤ 211106232532992 := by
                      have h1 := HO9.out.go.len
                      have h2 := congrArg List.length HE9.out.1
                      rw [List.length_append, HE9.out.2, hul] at h2
                      rw [List.length_map] at h1
                      omega
                    clear hul
                    go_wp2_with fail
                    with_reducible refine (HTK.out).mono ?_
                    rintro e wA ⟨U, uc, DA, rfl, hoA, hsA, hnA, huA, htA, hclA, hoeA⟩
                    have HOA := Lib.hid hoA
                    have HSA := Lib.hid hsA
                    have HNA := Lib.hid hnA
                    have HBA' := Lib.hid hoA.oc.hB
                    have HPA := Lib.hid (And.intro huA (And.intro htA (hoeA _ HP8.out.1)))
                    have HUB := Lib.hid HO9.out.oc.cn.ub
                    clear hoA hsA hnA huA htA hclA hoeA HTK HO9
                    go_wp2_with (refine wpList_append_w Try.underlying22 hi8 hy0 hy1 hy2 rfl rfl (.tmp 190) (.tmp 192) rfl rfl HOA.out.go U ul uc (D8.us.map V8) rfl HSA.out HNA.out (by omega) hgn HBA'.out ?_)
                    intro GA' gc' wB hoB hfB hgB
                    have HREL : Hid (OrK w cb (some ⟨bS, oS, none⟩) m d sent xs (.slice PA' (pn + 38) pc') (.slice GA' (gn + ul) gc') (.int .i64 ((i + 1 : Nat) : Int)) wB) := Lib.hid ⟨i + 1, GA', gn + ul, gc', got ++ D8.us, PA', pn + 38, pc', want ++ Fr.encV (r).bytes, DA, by omega, rfl, rfl, rfl, HOA.out.gapp (by rw [List.map_append]; exact hoB) hfB hgB (fun z hz => (List.mem_append.1 hz).elim (HOA.out.gb z) (HUB.out z)), HPA.out.2.2, by rw [HPA.out.1, List.append_nil]; exact HE9.out.1, by rw [HPA.out.2.1]; exact HP8.out.2.2, HE9.out.2⟩
                    clear hoB hfB hgB HOA HSA HNA HBA' hgn
                    go_wp2
                    go_roundw
                    case rel => have := HREL.out; simpa using this
                    case measure => simp [intOf]; omega
                  · have v2 : Int.tmod (i : Int) 2 = 1 := by rw [Int.tmod_eq_emod_of_nonneg (by omega)]; omega
                    have HREL : Hid (OrK w cb (some ⟨bS, oS, none⟩) m d sent xs (.slice PA' (pn + 38) pc') (.slice GA gn gc) (.int .i64 ((i + 1 : Nat) : Int)) w9) := Lib.hid ⟨i + 1, GA, gn, gc, got, PA', pn + 38, pc', want ++ Fr.encV (r).bytes, D8, by omega, rfl, rfl, rfl, HO9.out, HP8.out.1, HE9.out.1, HP8.out.2.2, HE9.out.2⟩
                    clear HO9
                    go_wp2
                    go_roundw
                    case rel => have := HREL.out; simpa using this
                    case measure => simp [intOf]; omega
                · have hok' : r.ok = false := by simpa using hok
                  unfold RpF at HRA
                  rw [hok'] at HRA
                  have HRO := HR0
                  clear hok hok'
                  go_wp2_with fail
                  with_reducible refine (HRA.out).mono ?_
                  rintro e wt ⟨XA0, xn0, xc0, rfl, hx0, hb5⟩
                  have ot := HOZ.out.below (HBZ.out.trans (hb5.mono HBZ.out.size))
                  have kt := HKZ.out.below hb5
                  clear hx0 hb5 HRA HKZ HBZ y0 y1 y2 y3 y4 y5 HCEL
                  have t0 := kt.cell 0 _ rfl
                  have t1 := kt.cell 1 _ rfl
                  have t2 := kt.cell 2 _ rfl
                  have t3 := kt.cell 3 _ rfl
                  have t4 := kt.cell 4 _ rfl
                  have t5 := kt.cell 5 _ rfl
                  have tl := kt.lt
                  have HOT := Lib.hid ot
                  have HKT := Lib.hid kt
                  have HR1 := Lib.hid (reply_goodF wt (⟨0, false, (i : Int), 0, 0, 0⟩ : RpV) HRO.out)
                  clear ot kt
                  go_wp2_with fail
                  with_reducible refine (HR1.out).mono ?_
                  rintro e w6 ⟨XA, xc, rfl, hox, hb6⟩
                  have HF1 := Lib.hid (fenc_good w6 _ XA 34 xc ((⟨0, false, (i : Int), 0, 0, 0⟩ : RpV)).bytes (hox.arg' (rp_byte HRO.out)) (Nat.le_refl _) (by omega) (by omega))
                  have HO6 := Lib.hid (HOT.out.below hb6)
                  have HK6 := Lib.hid (HKT.out.below hb6)
                  clear hox hb6 HR1 t0 t1 t2 t3 t4 t5 tl HOT HKT
                  go_wp2_with fail
                  with_reducible refine (HF1.out).mono ?_
                  rintro e w7 ⟨F, fc, rfl, hof, hb7⟩
                  have hofv := hof.ownV
                  have HO7 := Lib.hid (HO6.out.newZ (Z' := bkV F) hb7 (fun y hy => hofv.lt y hy))
                  have HFV := Lib.hid (hofv.mono (Nat.le_trans HO6.out.oc.hB (Nat.le_refl _)))
                  have k7 := HK6.out.below hb7
                  have t0 := k7.cell 0 _ rfl
                  have t1 := k7.cell 1 _ rfl
                  have t2 := k7.cell 2 _ rfl
                  have t3 := k7.cell 3 _ rfl
                  have t4 := k7.cell 4 _ rfl
                  have t5 := k7.cell 5 _ rfl
                  have tl := k7.lt
                  have HRP := Lib.hid (HO7.out.reply q HP3.out.1 _ HP3.out.2.1 HP3.out.2.2.1 HP3.out.2.2.2.1 (⟨0, false, (i : Int), 0, 0, 0⟩ : RpV) HRO.out i (by rw [HP3.out.2.2.2.2.2]; exact HTL.out) (by omega) (by rw [HP3.out.2.2.2.2.1]; have h1 := congrArg List.length HEQ.out; rw [List.length_append] at h1; have := HWL.out; omega))
                  clear hof hb7 hofv HF1 HO6 HK6 k7
                  go_wp2_with fail
                  with_reducible refine (HRP.out).mono ?_
                  rintro e w8 ⟨D8, rfl, ho8, hoe8, hus8, htl8, hF8⟩
                  have hf8 := hF8 _ _ _ _ HFV.out (fun y hy => hy)
                  have hby8 : ∀ z ∈ Fr.encV ((⟨0, false, (i : Int), 0, 0, 0⟩ : RpV)).bytes, z < 256 := encV_byte (rp_byte HRO.out)
                  have hsF := (hf8.arg' hby8).src
                  have hsN : F = none → fc = 0 := fun e => (hf8.none_ e).2
                  have HO8 := Lib.hid ho8
                  have HS8 := Lib.hid hsF
                  have HN8 := Lib.hid hsN
                  have HB8 := Lib.hid ho8.oc.hB
                  have HP8 := Lib.hid (And.intro hoe8 (And.intro hus8 htl8))
                  have HBY8 := Lib.hid hby8
                  have hpn : (pn + 38) * 1 ≤ 211106232532992 := by have h1 := HO7.out.wa.len; rw [List.length_map] at h1; have := HWL.out; omega
                  clear ho8 hoe8 hus8 htl8 hF8 hf8 hby8 hsF hsN HRP HO7 HFV t0 t1 t2 t3 t4 t5 tl
                  go_wp2_with (refine wpList_append_w Try.underlying22 hi8 hy0 hy1 hy2 rfl rfl (.tmp 184) (.tmp 185) rfl rfl HO8.out.wa F 38 fc ((Fr.encV ((⟨0, false, (i : Int), 0, 0, 0⟩ : RpV)).bytes).map V8) rfl HS8.out HN8.out (by omega) hpn HB8.out ?_)
                  intro PA' pc' w9 ho9 hf9 hg9
                  have HO9 := Lib.hid (HO8.out.wapp (want' := want ++ Fr.encV ((⟨0, false, (i : Int), 0, 0, 0⟩ : RpV)).bytes) (by rw [List.map_append]; exact ho9) hf9 hg9 (fun z hz => (List.mem_append.1 hz).elim (HO8.out.wb z) (HBY8.out z)))
                  have HE9 : Hid (got ++ D8.us = want ++ Fr.encV ((⟨0, false, (i : Int), 0, 0, 0⟩ : RpV)).bytes ∧ (want ++ Fr.encV ((⟨0, false, (i : Int), 0, 0, 0⟩ : RpV)).bytes).length = 38 * (i + 1)) := Lib.hid ⟨by rw [HP8.out.2.1, HP3.out.2.2.2.2.1, ← List.append_assoc, HEQ.out], by rw [List.length_append, HWL.out, encV_length, RpV.len]; omega⟩
                  clear ho9 hf9 hg9 HO8 HS8 HN8 HB8 hpn
                  rcases (by omega : i % 2 = 0 ∨ i % 2 = 1) with hp | hp
                  · have v2 : Int.tmod (i : Int) 2 = 0 := by rw [Int.tmod_eq_emod_of_nonneg (by omega)]; omega
                    obtain ⟨ul, hul⟩ : ∃ ul, D8.us.length = ul := ⟨_, rfl⟩
                    have HTK := Lib.hid (HO9.out.take ul hul)
                    have hgn : (gn + ul) * 1 ≤ 211106232532992 := by
                      have h1 := HO9.out.go.len
                      have h2 := congrArg List.length HE9.out.1
                      rw [List.length_append, HE9.out.2, hul] at h2
                      rw [List.length_map] at h1
                      omega
                    clear hul
                    go_wp2_with fail
                    with_reducible refine (HTK.out).mono ?_
                    rintro e wA ⟨U, uc, DA, rfl, hoA, hsA, hnA, huA, htA, hclA, hoeA⟩
                    have HOA := Lib.hid hoA
                    have HSA := Lib.hid hsA
                    have HNA := Lib.hid hnA
                    have HBA' := Lib.hid hoA.oc.hB
                    have HPA := Lib.hid (And.intro huA (And.intro htA (hoeA _ HP8.out.1)))
                    have HUB := Lib.hid HO9.out.oc.cn.ub
                    clear hoA hsA hnA huA htA hclA hoeA HTK HO9
                    go_wp2_with (refine wpList_append_w Try.underlying22 hi8 hy0 hy1 hy2 rfl rfl (.tmp 190) (.tmp 192) rfl rfl HOA.out.go U ul uc (D8.us.map V8) rfl HSA.out HNA.out (by omega) hgn HBA'.out ?_)
                    intro GA' gc' wB hoB hfB hgB
                    have HREL : Hid (OrK w cb (some ⟨bS, oS, none⟩) m d sent xs (.slice PA' (pn + 38) pc') (.slice GA' (gn + ul) gc') (.int .i64 ((i + 1 : Nat) : Int)) wB) := Lib.hid ⟨i + 1, GA', gn + ul, gc', got ++ D8.us, PA', pn + 38, pc', want ++ Fr.encV ((⟨0, false, (i : Int), 0, 0, 0⟩ : RpV)).bytes, DA, by omega, rfl, rfl, rfl, HOA.out.gapp (by rw [List.map_append]; exact hoB) hfB hgB (fun z hz => (List.mem_append.1 hz).elim (HOA.out.gb z) (HUB.out z)), HPA.out.2.2, by rw [HPA.out.1, List.append_nil]; exact HE9.out.1, by rw [HPA.out.2.1]; exact HP8.out.2.2, HE9.out.2⟩
                    clear hoB hfB hgB HOA HSA HNA HBA' hgn
                    go_wp2
                    go_roundw
                    case rel => have := HREL.out; simpa using this
                    case measure => simp [intOf]; omega
                  · have v2 : Int.tmod (i : Int) 2 = 1 := by rw [Int.tmod_eq_emod_of_nonneg (by omega)]; omega
                    have HREL : Hid (OrK w cb (some ⟨bS, oS, none⟩) m d sent xs (.slice PA' (pn + 38) pc') (.slice GA gn gc) (.int .i64 ((i + 1 : Nat) : Int)) w9) := Lib.hid ⟨i + 1, GA, gn, gc, got, PA', pn + 38, pc', want ++ Fr.encV ((⟨0, false, (i : Int), 0, 0, 0⟩ : RpV)).bytes, D8, by omega, rfl, rfl, rfl, HO9.out, HP8.out.1, HE9.out.1, HP8.out.2.2, HE9.out.2⟩
                    clear HO9
                    go_wp2
                    go_roundw
                    case rel => have := HREL.out; simpa using this
                    case measure => simp [intOf]; omega
              · have d1 : decide ((i : Int) < (rn : Int)) = false := by simp; omega
                have HRO := HR0
                have ot := HOZ.out.below bz
                have kt := kz
                clear kz bz
                go_upto_region 39 with (fail)
                generalize (wz.alloc (.cells #[.int .i64 0, .bool false, .int .i64 (i : Int), .int .i64 0, .int .i64 0, .int .i64 0] 82)) = wt at *
                have t0 := kt.cell 0 _ rfl
                have t1 := kt.cell 1 _ rfl
                have t2 := kt.cell 2 _ rfl
                have t3 := kt.cell 3 _ rfl
                have t4 := kt.cell 4 _ rfl
                have t5 := kt.cell 5 _ rfl
                have tl := kt.lt
                have HOT := Lib.hid ot
                have HKT := Lib.hid kt
                have HR1 := Lib.hid (reply_goodF wt (⟨0, false, (i : Int), 0, 0, 0⟩ : RpV) HRO.out)
                clear ot kt
                go_wp2_with fail
                with_reducible refine (HR1.out).mono ?_
                rintro e w6 ⟨XA, xc, rfl, hox, hb6⟩
                have HF1 := Lib.hid (fenc_good w6 _ XA 34 xc ((⟨0, false, (i : Int), 0, 0, 0⟩ : RpV)).bytes (hox.arg' (rp_byte HRO.out)) (Nat.le_refl _) (by omega) (by omega))
                have HO6 := Lib.hid (HOT.out.below hb6)
                have HK6 := Lib.hid (HKT.out.below hb6)
                clear hox hb6 HR1 t0 t1 t2 t3 t4 t5 tl HOT HKT
                go_wp2_with fail
                with_reducible refine (HF1.out).mono ?_
                rintro e w7 ⟨F, fc, rfl, hof, hb7⟩
                have hofv := hof.ownV
                have HO7 := Lib.hid (HO6.out.newZ (Z' := bkV F) hb7 (fun y hy => hofv.lt y hy))
                have HFV := Lib.hid (hofv.mono (Nat.le_trans HO6.out.oc.hB (Nat.le_refl _)))
                have k7 := HK6.out.below hb7
                have t0 := k7.cell 0 _ rfl
                have t1 := k7.cell 1 _ rfl
                have t2 := k7.cell 2 _ rfl
                have t3 := k7.cell 3 _ rfl
                have t4 := k7.cell 4 _ rfl
                have t5 := k7.cell 5 _ rfl
                have tl := k7.lt
                have HRP := Lib.hid (HO7.out.reply q HP3.out.1 _ HP3.out.2.1 HP3.out.2.2.1 HP3.out.2.2.2.1 (⟨0, false, (i : Int), 0, 0, 0⟩ : RpV) HRO.out i (by rw [HP3.out.2.2.2.2.2]; exact HTL.out) (by omega) (by rw [HP3.out.2.2.2.2.1]; have h1 := congrArg List.length HEQ.out; rw [List.length_append] at h1; have := HWL.out; omega))
                clear hof hb7 hofv HF1 HO6 HK6 k7
                go_wp2_with fail
                with_reducible refine (HRP.out).mono ?_
                rintro e w8 ⟨D8, rfl, ho8, hoe8, hus8, htl8, hF8⟩
                have hf8 := hF8 _ _ _ _ HFV.out (fun y hy => hy)
                have hby8 : ∀ z ∈ Fr.encV ((⟨0, false, (i : Int), 0, 0, 0⟩ : RpV)).bytes, z < 256 := encV_byte (rp_byte HRO.out)
                have hsF := (hf8.arg' hby8).src
                have hsN : F = none → fc = 0 := fun e => (hf8.none_ e).2
                have HO8 := Lib.hid ho8
                have HS8 := Lib.hid hsF
                have HN8 := Lib.hid hsN
                have HB8 := Lib.hid ho8.oc.hB
                have HP8 := Lib.hid (And.intro hoe8 (And.intro hus8 htl8))
                have HBY8 := Lib.hid hby8
                have hpn : (pn + 38) * 1 ≤ 211106232532992 := by have h1 := HO7.out.wa.len; rw [List.length_map] at h1; have := HWL.out; omega
                clear ho8 hoe8 hus8 htl8 hF8 hf8 hby8 hsF hsN HRP HO7 HFV t0 t1 t2 t3 t4 t5 tl
                go_wp2_with (refine wpList_append_w Try.underlying22 hi8 hy0 hy1 hy2 rfl rfl (.tmp 184) (.tmp 185) rfl rfl HO8.out.wa F 38 fc ((Fr.encV ((⟨0, false, (i : Int), 0, 0, 0⟩ : RpV)).bytes).map V8) rfl HS8.out HN8.out (by omega) hpn HB8.out ?_)
                intro PA' pc' w9 ho9 hf9 hg9
                have HO9 := Lib.hid (HO8.out.wapp (want' := want ++ Fr.encV ((⟨0, false, (i : Int), 0, 0, 0⟩ : RpV)).bytes) (by rw [List.map_append]; exact ho9) hf9 hg9 (fun z hz => (List.mem_append.1 hz).elim (HO8.out.wb z) (HBY8.out z)))
                have HE9 : Hid (got ++ D8.us = want ++ Fr.encV ((⟨0, false, (i : Int), 0, 0, 0⟩ : RpV)).bytes ∧ (want ++ Fr.encV ((⟨0, false, (i : Int), 0, 0, 0⟩ : RpV)).bytes).length = 38 * (i + 1)) := Lib.hid ⟨by rw [HP8.out.2.1, HP3.out.2.2.2.2.1, ← List.append_assoc, HEQ.out], by rw [List.length_append, HWL.out, encV_length, RpV.len]; omega⟩
                clear ho9 hf9 hg9 HO8 HS8 HN8 HB8 hpn
                rcases (by omega : i % 2 = 0 ∨ i % 2 = 1) with hp | hp
                · have v2 : Int.tmod (i : Int) 2 = 0 := by rw [Int.tmod_eq_emod_of_nonneg (by omega)]; omega
                  obtain ⟨ul, hul⟩ : ∃ ul, D8.us.length = ul := ⟨_, rfl⟩
                  have HTK := Lib.hid (HO9.out.take ul hul)
                  have hgn : (gn + ul) * 1 ≤ 211106232532992 := by
                    have h1 := HO9.out.go.len
                    have h2 := congrArg List.length HE9.out.1
                    rw [List.length_append, HE9.out.2, hul] at h2
                    rw [List.length_map] at h1
                    omega
                  clear hul
                  go_wp2_with fail
                  with_reducible refine (HTK.out).mono ?_
                  rintro e wA ⟨U, uc, DA, rfl, hoA, hsA, hnA, huA, htA, hclA, hoeA⟩
                  have HOA := Lib.hid hoA
                  have HSA := Lib.hid hsA
                  have HNA := Lib.hid hnA
                  have HBA' := Lib.hid hoA.oc.hB
                  have HPA := Lib.hid (And.intro huA (And.intro htA (hoeA _ HP8.out.1)))
                  have HUB := Lib.hid HO9.out.oc.cn.ub
                  clear hoA hsA hnA huA htA hclA hoeA HTK HO9
                  go_wp2_with (refine wpList_append_w Try.underlying22 hi8 hy0 hy1 hy2 rfl rfl (.tmp 190) (.tmp 192) rfl rfl HOA.out.go U ul uc (D8.us.map V8) rfl HSA.out HNA.out (by omega) hgn HBA'.out ?_)
                  intro GA' gc' wB hoB hfB hgB
                  have HREL : Hid (OrK w cb (some ⟨bS, oS, none⟩) m d sent xs (.slice PA' (pn + 38) pc') (.slice GA' (gn + ul) gc') (.int .i64 ((i + 1 : Nat) : Int)) wB) := Lib.hid ⟨i + 1, GA', gn + ul, gc', got ++ D8.us, PA', pn + 38, pc', want ++ Fr.encV ((⟨0, false, (i : Int), 0, 0, 0⟩ : RpV)).bytes, DA, by omega, rfl, rfl, rfl, HOA.out.gapp (by rw [List.map_append]; exact hoB) hfB hgB (fun z hz => (List.mem_append.1 hz).elim (HOA.out.gb z) (HUB.out z)), HPA.out.2.2, by rw [HPA.out.1, List.append_nil]; exact HE9.out.1, by rw [HPA.out.2.1]; exact HP8.out.2.2, HE9.out.2⟩
                  clear hoB hfB hgB HOA HSA HNA HBA' hgn
                  go_wp2
                  go_roundw
                  case rel => have := HREL.out; simpa using this
                  case measure => simp [intOf]; omega
                · have v2 : Int.tmod (i : Int) 2 = 1 := by rw [Int.tmod_eq_emod_of_nonneg (by omega)]; omega
                  have HREL : Hid (OrK w cb (some ⟨bS, oS, none⟩) m d sent xs (.slice PA' (pn + 38) pc') (.slice GA gn gc) (.int .i64 ((i + 1 : Nat) : Int)) w9) := Lib.hid ⟨i + 1, GA, gn, gc, got, PA', pn + 38, pc', want ++ Fr.encV ((⟨0, false, (i : Int), 0, 0, 0⟩ : RpV)).bytes, D8, by omega, rfl, rfl, rfl, HO9.out, HP8.out.1, HE9.out.1, HP8.out.2.2, HE9.out.2⟩
                  clear HO9
                  go_wp2
                  go_roundw
                  case rel => have := HREL.out; simpa using this
                  case measure => simp [intOf]; omega
            · obtain rfl : i = m := by omega
              have j3 : ¬ (i : Int) < (i : Int) := by omega
              have hoe := HOE.out
              rw [List.drop_of_length_le (by rw [HXL.out]; exact Nat.le_refl _)] at hoe
              have HOE0 := Lib.hid hoe
              have HR12 : Hid (RpV.ok ⟨12, false, 0, 0, 0, 0⟩ = true) := Lib.hid (by decide)
              have HR1 := Lib.hid (reply_goodF wq ⟨12, false, 0, 0, 0, 0⟩ HR12.out)
              have HUL : Hid (D.us.length ≤ 1000) := Lib.hid (by have h1 := congrArg List.length HEQ.out; rw [List.length_append] at h1; have := HWL.out; omega)
              clear hoe
              go_wp2_with fail
              with_reducible refine (HR1.out).mono ?_
              rintro e w6 ⟨XA, xc, rfl, hox, hb6⟩
              have HF1 := Lib.hid (fenc_good w6 _ XA 34 xc (RpV.bytes ⟨12, false, 0, 0, 0, 0⟩) (hox.arg' (rp_byte HR12.out)) (Nat.le_refl _) (by omega) (by omega))
              have HO6 := Lib.hid (HO.out.below hb6)
              clear hox hb6 HR1
              go_wp2_with fail
              with_reducible refine (HF1.out).mono ?_
              rintro e w7 ⟨F, fc, rfl, hof, hb7⟩
              have hby8 : ∀ z ∈ Fr.encV (RpV.bytes ⟨12, false, 0, 0, 0, 0⟩), z < 256 := encV_byte (rp_byte HR12.out)
              have hfa := hof.ownV.arg' hby8
              have HS8 := Lib.hid hfa.src
              have HN8 : Hid (F = none → fc = 0) := Lib.hid (fun e => (hfa.none_ e).2)
              have HO7 := Lib.hid (HO6.out.below hb7)
              have HB7 := Lib.hid HO7.out.oc.hB
              have HBY8 := Lib.hid hby8
              have hpn : (pn + 38) * 1 ≤ 211106232532992 := by have h1 := HO7.out.wa.len; rw [List.length_map] at h1; have := HWL.out; omega
              clear hof hb7 hby8 hfa HF1 HO6
              go_wp2_with (refine wpList_append_w Try.underlying22 hi8 hy0 hy1 hy2 rfl rfl (.tmp 205) (.tmp 206) rfl rfl HO7.out.wa F 38 fc ((Fr.encV (RpV.bytes ⟨12, false, 0, 0, 0, 0⟩)).map V8) rfl HS8.out HN8.out (by omega) hpn HB7.out ?_)
              intro PA' pc' w9 ho9 hf9 hg9
              have HO9 := Lib.hid (HO7.out.wapp (want' := want ++ Fr.encV (RpV.bytes ⟨12, false, 0, 0, 0, 0⟩)) (by rw [List.map_append]; exact ho9) hf9 hg9 (fun z hz => (List.mem_append.1 hz).elim (HO7.out.wb z) (HBY8.out z)))
              have HND := Lib.hid (HO9.out.end_ HOE0.out (by have := HUL.out; omega))
              clear ho9 hf9 hg9 HO7 HS8 HN8 HB7 hpn
              go_wp2_with fail
              with_reducible refine (HND.out).mono ?_
              rintro e w10 ⟨DA, rfl, hoA, husA, hclA, hobA⟩
              have HOA := Lib.hid (hoA.below ((Below.refl w10.heap.size w10).alloc (Nat.le_refl _) (.cells #[.int .u8 0, .int .i64 0, .slice none 0 0, .int .i64 0] 71)))
              have HPA := Lib.hid (And.intro husA (And.intro hclA hobA))
              have HN2 := Lib.hid (HOA.out.next2 hobA hclA)
              clear hoA husA hclA hobA HND HO9
              go_wp2_with fail
              with_reducible refine (HN2.out).mono ?_
              rintro e w11 ⟨rfl, hoB⟩
              have HOB := Lib.hid (hoB.below ((Below.refl w11.heap.size w11).alloc (Nat.le_refl _) (.cells #[.int .u8 0, .int .i64 0, .slice none 0 0, .int .i64 0] 71)))
              obtain ⟨ul, hul⟩ : ∃ ul, DA.us.length = ul := ⟨_, rfl⟩
              have HTK := Lib.hid (HOB.out.take ul hul)
              have HUB := Lib.hid HOB.out.oc.cn.ub
              have hgn : (gn + ul) * 1 ≤ 211106232532992 := by
                have h1 := HOB.out.go.len
                have h2 := congrArg List.length HPA.out.1
                have h3 := congrArg List.length HEQ.out
                rw [List.length_append] at h3
                rw [List.length_append, encV_length, RpV.len, hul] at h2
                rw [List.length_map] at h1
                have := HWL.out
                omega
              clear hoB hul HN2 HOA
              go_wp2_with fail
              with_reducible refine (HTK.out).mono ?_
              rintro e w12 ⟨U, uc, DC, rfl, hoC, hsC, hnC, huC, htC, hclC, -⟩
              have HOC := Lib.hid hoC
              have HSC := Lib.hid hsC
              have HNC := Lib.hid hnC
              have HBC := Lib.hid hoC.oc.hB
              have HPC := Lib.hid (And.intro huC (hclC.trans HPA.out.2.1))
              clear hoC hsC hnC huC htC hclC HTK HOB
              go_wp2_with (refine wpList_append_w Try.underlying22 hi8 hy0 hy1 hy2 rfl rfl (.tmp 218) (.tmp 220) rfl rfl HOC.out.go U ul uc (DA.us.map V8) rfl HSC.out HNC.out (by omega) hgn HBC.out ?_)
              intro GA' gc' w13 hoD hfD hgD
              have hoD' := HOC.out.gapp (got' := got ++ DA.us) (by rw [List.map_append]; exact hoD) hfD hgD (fun z hz => (List.mem_append.1 hz).elim (HOC.out.gb z) (HUB.out z))
              have heqD : got ++ DA.us = want ++ Fr.encV (RpV.bytes ⟨12, false, 0, 0, 0, 0⟩) := by rw [HPA.out.1, ← List.append_assoc, HEQ.out]
              have HSM := Lib.hid (same_any w13 w13.heap.size w13.heap.size GA' PA' (gn + ul) gc' (pn + 38) pc' _ _ true (decide_eq_true heqD) (hoD'.go.arg' hoD'.gb) (hoD'.wa.arg' hoD'.wb))
              have HOD := Lib.hid hoD'
              clear hoD hfD hgD hoD' heqD HOC HSC HNC HBC hgn
              go_wp2_with fail
              with_reducible refine (HSM.out).mono ?_
              rintro e w14 ⟨rfl, t14, hw14⟩
              have ho14 := HOD.out.below (below_drewN (Below.refl w13.heap.size w13) t14)
              rw [← hw14] at ho14
              have HTK := Lib.hid (ho14.take 0 (by rw [HPC.out.1]; rfl))
              clear HSM ho14 hw14
              go_wp2_with fail
              with_reducible refine (HTK.out).mono ?_
              rintro e w15 ⟨U2, uc2, DE, rfl, hoE, hsE, hnE, huE, htE, hclE, -⟩
              have HOE1 := Lib.hid hoE
              have HCLE : Hid (DE.cl = true) := Lib.hid (hclE.trans HPC.out.2)
              have HOP := Lib.hid (cn_open w15 _ cb DE hoE.oc.cn)
              clear hoE hsE hnE huE htE hclE HTK HOD
              rw [HCLE.out] at HOP
              go_wp2_with fail
              with_reducible refine (HOP.out).mono ?_
              rintro e w16 ⟨rfl, rfl⟩
              have HFS := Lib.hid (cn_feed_shut w15 _ cb DE HOE1.out.oc.cn (.slice SA sn sc) (.inl HCLE.out))
              clear HOP
              go_wp2_with fail
              with_reducible refine (HFS.out).mono ?_
              rintro e w17 ⟨rfl, rfl⟩
              have HBW := Lib.hid HOE1.out.oc.bw
              clear HFS HOE1
              go_wp2
              go_ret
              exact ⟨rfl, HBW.out⟩
end Go.Proofs.Ytndgladfcogiiaa
