/- Contracts of a shard: Step at whatever state, bytes.Clone, Start, New. -/
import Derived.Test.YtpjgpiiibgogeaaShX
import Derived.Lib.SliceRun
namespace Go.Proofs.Ytpjgpiiibgogeaa
open Go.RowKit
set_option maxRecDepth 100000
set_option linter.unusedVariables false

structure StX where
  q : ResV
  v : Nat
  l : List Ent
  y : Nx
/-- A step of what comes next, where the version v holds, which is l. -/
def stepX (v : Nat) (l : List Ent) : Nx → StX
  | .none => ⟨⟨false, 0, 0⟩, v, l, .none⟩
  | .read op ks x => ⟨rdRes op (ofV op ks x l).1, v, l, rdNx op ks x v (ofV op ks x l)⟩
  | .write op ks x num made r => if v = num then ⟨⟨true, r.E, r.N⟩, v + 1, made, .none⟩ else ⟨⟨false, 0, 0⟩, v, l, .read op ks x⟩
theorem step_any (w : World) (s b bw : Nat) (X : List Nat) (k v : Nat) (l : List Ent) (nx : Nat → Nx) (h : ShS w s b bw X k v l nx) (hk : k < 9223372036854775807) (i : Nat) (hi : i < 64) (x : Nx) (hx : nx i = x) (hp : isNx x = true) :
    Calls Try.prog 39 #[.pointer (some ⟨s, 0, none⟩), .int .i64 (i : Int)] w (StepEnd w s b bw X (k + 1) (stepX v l x).v (stepX v l x).l (updF nx i (stepX v l x).y) (stepX v l x).q) := by
  obtain ⟨A, n, c, es, fv, ring, rfl, h⟩ := h
  have hxv := h.nxv i hi
  have hlts := h.lts
  rw [hx] at hxv
  have hb0 : Below w.heap.size w (w.alloc (.cells #[.bool false, .int .i64 0, .int .i64 0] 79)) := (Below.refl w.heap.size w).alloc (Nat.le_refl _) _
  have h' := h.below hb0
  have hxv' := hxv.off (Off.of_below (S := (s :: b :: bw :: X)) hb0)
  generalize hf : fv i = f at hxv hxv'
  cases hxv with
  | none => simp [isNx] at hp
  | read op ks x p0 p1 p2 kA kn kc ok h0 h1 h2 a0 a1 a2 hka ak ck =>
    cases hxv' with
    | read _ _ _ _ _ _ _ _ _ ok' h0' h1' h2' a0' a1' a2' hka' ak' ck' =>
      exact step_read w s b bw X k v (k + 1) v n c i A es (es.map KV.ent) fv nx ring _ _ h hi p0 p1 p2 hf
        (Lib.hid ((read1_any _ s b bw X k v n c i A es fv nx ring h' hk hi op ks x p0 p1 p2 _ _ _ ok' h0' h1' h2' a0' a1' a2' hka' ak' ck').mono fun e w' hh => hh.st))
  | write op ks x num made r p0 p1 p2 p3 p4 p5 kA kn kc A' n' c' es' ok h0 h1 h2 h3 h4 h5 a0 a1 a2 a3 a4 a5 hka ak ck hv hm hw hnum =>
    cases hxv' with
    | write _ _ _ _ _ _ _ _ _ _ _ _ _ _ _ _ _ _ _ ok h0 h1 h2 h3 h4 h5 a0 a1 a2 a3 a4 a5 hka ak ck hv hm hw hnum =>
      by_cases hvn : v = num
      · subst hvn
        have hs : stepX v (es.map KV.ent) (.write op ks x v made r) = ⟨⟨true, r.E, r.N⟩, v + 1, made, .none⟩ := if_pos rfl
        rw [hs]
        exact step_write w s b bw X k v (k + 1) (v + 1) n c i A es made fv nx ring ⟨true, r.E, r.N⟩ .none h hi p0 p1 p2 p3 p4 p5 hf
          (Lib.hid (write1_ok _ s b bw X k v n c i A es fv nx ring h' hk hi op ks x made r p0 p1 p2 p3 p4 p5 _ _ _ _ _ _ _ ok h0 h1 h2 h3 h4 h5 a0 a1 a2 a3 a4 a5 hka ak ck hv hm hw hnum))
      · have hs : stepX v (es.map KV.ent) (.write op ks x num made r) = ⟨⟨false, 0, 0⟩, v, es.map KV.ent, .read op ks x⟩ := if_neg hvn
        rw [hs]
        exact step_write w s b bw X k v (k + 1) v n c i A es (es.map KV.ent) fv nx ring ⟨false, 0, 0⟩ (.read op ks x) h hi p0 p1 p2 p3 p4 p5 hf
          (Lib.hid (write1_not _ s b bw X k v n c i A es fv nx ring h' hk hi op ks x num made r p0 p1 p2 p3 p4 p5 _ _ _ _ _ _ _ ok h0 h1 h2 h3 h4 h5 a0 a1 a2 a3 a4 a5 hka ak ck hv hm hw hnum hvn))

theorem step_bad (w : World) (p : Value) (who : Int) (hb : inB who 64 = false) : Calls Try.prog 39 #[p, .int .i64 who] w fun e w' => e = .returned (.tuple #[.agg #[.bool false, .int .i64 0, .int .i64 0], .int .i64 1]) ∧ Below w.heap.size w w' := by
  have HW := Lib.hid (sWho_any (w.alloc (.cells #[.bool false, .int .i64 0, .int .i64 0] 79)) who)
  rw [hb] at HW
  have hb0 : Below w.heap.size w (w.alloc (.cells #[.bool false, .int .i64 0, .int .i64 0] 79)) := (Below.refl w.heap.size w).alloc (Nat.le_refl _) _
  have kr := BlkL.new w [.bool false, .int .i64 0, .int .i64 0] 79
  have HB := Lib.hid hb0
  have HK := Lib.hid kr
  clear hb hb0 kr
  go_enter Try.func39, Try.ntmps39
  go_wp2_with fail
  with_reducible refine HW.out.mono ?_
  rintro e w1 ⟨rfl, hw⟩
  subst hw
  go_wp2
  exact bodyPost_ret (v := .tuple #[.agg #[.bool false, .int .i64 0, .int .i64 0], .int .i64 1]) (by simp [results, Try.results39, go_sem]) rfl ⟨rfl, HB.out⟩
theorem step_none (w : World) (p : Value) (who : Int) (hb : inB who 64 = true) (HP : Hid (∀ w', Below w.heap.size w w' → Calls Try.prog 43 #[p, .int .i64 who] w' fun e w1 => e = .returned (.bool false) ∧ w' = w1)) : Calls Try.prog 39 #[p, .int .i64 who] w fun e w' => e = .returned (.tuple #[.agg #[.bool false, .int .i64 0, .int .i64 0], .int .i64 7]) ∧ Below w.heap.size w w' := by
  have HW := Lib.hid (sWho_any (w.alloc (.cells #[.bool false, .int .i64 0, .int .i64 0] 79)) who)
  rw [hb] at HW
  have hb0 : Below w.heap.size w (w.alloc (.cells #[.bool false, .int .i64 0, .int .i64 0] 79)) := (Below.refl w.heap.size w).alloc (Nat.le_refl _) _
  have HP1 := Lib.hid (HP.out _ hb0)
  have HB := Lib.hid hb0
  clear hb hb0 HP
  go_enter Try.func39, Try.ntmps39
  go_wp2_with fail
  with_reducible refine HW.out.mono ?_
  rintro e w1 ⟨rfl, hw⟩
  subst hw
  go_wp2_with fail
  with_reducible refine HP1.out.mono ?_
  rintro e w1 ⟨rfl, hw⟩
  subst hw
  go_wp2
  exact bodyPost_ret (v := .tuple #[.agg #[.bool false, .int .i64 0, .int .i64 0], .int .i64 7]) (by simp [results, Try.results39, go_sem]) rfl ⟨rfl, HB.out⟩

theorem clone_any (w : World) (B : Nat) (A : Option Addr) (n c : Nat) (zs : List Nat) (h : Arg w B A n c zs) (hB : B ≤ w.heap.size) (hn : n ≤ 140737488355325) :
    Calls Try.prog 67 #[.slice A n c] w fun e w' => ∃ A' c', e = .returned (.slice A' n c') ∧ OwnB w' w.heap.size A' n c' zs ∧ Below w.heap.size w w' := by
  have qT : ∀ (w : World) (a : Option Addr) (n c n' c' : Nat), (binOp .eql 70 (.slice a n c) (.slice none n' c')).run Try.prog w = .ok (.bool a.isNone) w := fun w a n c n' c' => Lib.run_eql_slice_nil w _ _ a n c n' c' Try.underlying70
  cases A with
  | none =>
    obtain ⟨rfl, rfl⟩ := h.none_ rfl
    obtain rfl : zs = [] := List.eq_nil_of_length_eq_zero (by have := h.len; omega)
    clear h
    go_enter Try.func67, Try.ntmps67
    go_wp2
    go_ret
    exact ⟨none, 0, rfl, ⟨World.ownsRow_nil _ _ _ _, by simp⟩, Below.refl _ _⟩
  | some ad =>
    have hb0 : Below w.heap.size w (w.alloc (.cells #[] 5)) := (Below.refl _ w).alloc (Nat.le_refl _) _
    have HO := Lib.hid (OwnB.lit w [] (by simp) (n := 0) rfl (by unfold maxLen; omega))
    have HB0 := Lib.hid hb0
    have G1 := Lib.hid (h.below (hb0.mono hB))
    clear hb0 h
    go_enter Try.func67, Try.ntmps67
    go_wp2_with (refine wpList_append_bytes rfl (.tmp 5) (.tmp 6) rfl w.heap.size (some ⟨w.heap.size, 0, none⟩) 0 0 [] rfl HO.out B (some ad) n c zs rfl G1.out (by omega) (by simp) ?_)
    intro B1 d1 w1 ho1 hb1
    have HO1 := Lib.hid (And.intro ho1 (HB0.out.trans hb1))
    clear ho1 hb1
    go_wp2
    go_ret
    exact ⟨B1, d1, by simp, by simpa using HO1.out.1, HO1.out.2⟩
end Go.Proofs.Ytpjgpiiibgogeaa
