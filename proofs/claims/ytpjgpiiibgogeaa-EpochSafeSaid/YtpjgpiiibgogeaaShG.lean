/- Contracts of the library's Grow of nothing and Concat, over entries. -/
import Derived.Test.YtpjgpiiibgogeaaShA
import Derived.Lib.AppendZerosOnto
namespace Go.Proofs.Ytpjgpiiibgogeaa
open Go.RowKit
set_option maxRecDepth 100000
set_option linter.unusedVariables false

abbrev TE : TypeId := 99
abbrev zE : Value := .agg #[.slice none 0 0, .int .i64 0]
theorem ent_info : (Try.prog.info? 99).map (fun i => (i.zero, i.size, i.bytes)) = some (some zE, 2, 32) := by kernel_rfl

/-- An append of entries that are read from wherever they lie. -/
theorem wpList_append_ents {w : World} {ops : Array Oper} {rest : List Oper} {o : Oper} {a : Act} {Q : Exit → Act → World → Prop} (hgd : o.guard = none) (s x : Operand)
    (ho : o.op = .call { callee := .builtin .append, args := #[s, x], argTypes := #[140, 140] })
    (base : Nat) (A : Option Addr) (n c : Nat) (cs : List Value) (hs : a.eval s = .slice A n c) (hown : OwnC w base TE 2 A n c cs)
    (B : Nat) (S : Option Addr) (m d : Nat) (vs : List Value) (hx : a.eval x = .slice S m d) (hr : ArgC w B 2 S m d vs) (h1 : ∀ u ∈ vs, u.oneCell' = true) (hbytes : n + m ≤ 1000000) (hbase : base ≤ w.heap.size)
    (h : ∀ A' c' w', OwnC w' base TE 2 A' (n + m) c' (cs ++ vs) → Below base w w' → wpList Try.prog ops Q rest (a.put o.dst (.slice A' (n + m) c')) w') : wpList Try.prog ops Q (o :: rest) a w := by
  obtain ⟨i0, hi, hz0, hz1, hz2⟩ := info_parts ent_info
  have hlt := fun k hk => (World.ownsRow.lt hown k hk).1
  have hsm : n + m ≤ maxLen := by unfold maxLen; omega
  cases S with
  | some ad =>
    have hcell : ∀ j u, vs[j]? = some u → w.cell? (ad.add j) = some u := fun j u hj => by
      have hjl : j < vs.length := by
        rcases Nat.lt_or_ge j vs.length with h | h
        · exact h
        · rw [List.getElem?_eq_none h] at hj; cases hj
      rw [hr.len] at hjl
      obtain ⟨b, off, e, _, hc⟩ := hr.at_ (by omega)
      injection e with e
      subst e
      have e2 : (⟨b, off, none⟩ : Addr).add j = ⟨b, off + j, none⟩ := by unfold Addr.add; split <;> simp_all
      rw [e2, hc j hjl, hj]
    refine wpList_append_own w hgd s x 140 ho base TE i0 zE 2 32 Try.underlying140 hi hz0 hz1 hz2 rfl (by decide) _ n _ hs hown ad m d vs hx (by rw [hr.len]) hcell h1 hsm (by omega) hbase ?_
    intro v' w' h2 h3 h4
    have hb' : Below base w w' := (Below.refl _ _).grown h3 hbase hlt
    rcases h2.2 with ⟨e, e2⟩ | ⟨g, cap, cur, e, _⟩
    · subst e
      have e0 : n + m = 0 := e2
      have hh := h none 0 w'
      rw [e0] at hh h2
      exact hh h2 hb'
    · subst e
      exact h _ _ _ h2 hb'
  | none =>
    obtain ⟨rfl, rfl⟩ := hr.none_ rfl
    obtain rfl : vs = [] := List.eq_nil_of_length_eq_zero (by have := hr.len; omega)
    refine wpList_plain hgd fun K hK' => ?_
    have hrun := run_append_owned_none (P := Try.prog) w base 140 o.type TE i0 2 Try.underlying140 hi _ n _ hown
    unfold Oper.wp
    simp [execOp, ho, resolve, invoke, builtin, hs, hx, hrun, Result.andThen]
    exact hK' _ _ (by simpa using h A c w (by simpa using hown) (Below.refl _ _))

set_option maxHeartbeats 1600000 in
theorem growE_any (w : World) (n : Nat) (hn : n ≤ 1000000) :
    Calls Try.prog 123 #[.slice none 0 0, .int .i64 (n : Int)] w fun e w' => ∃ A c, e = .returned (.slice A 0 c) ∧ OwnC w' w.heap.size TE 2 A 0 c [] ∧ Below w.heap.size w w' := by
  rcases Nat.eq_zero_or_pos n with rfl | hp
  · go_enter Try.func123, Try.ntmps123
    go_wp2
    go_ret
    exact ⟨none, 0, rfl, OwnC.nil _ _ _ _, Below.refl _ _⟩
  · obtain ⟨i0, hi, hz0, hz1, hz2⟩ := info_parts ent_info
    have hrz : ∀ ty, (Builtin.append_ #[140, 3] ty #[.slice none 0 0, .int .i64 (n : Int)]).run Try.prog w =
        .ok (.slice (some ⟨w.heap.size, 0, none⟩) n (grownCap w n 0 TE)) (w.drew.alloc (.cells (([] : List Value).toArray ++ Builtin.zeroCells zE.cells n ++ Builtin.zeroCells zE.cells (grownCap w n 0 TE - n)) TE)) := fun ty => by
      have hold : (Builtin.firstCells i0.size 0 (.slice none 0 0)).run Try.prog w.drew = .ok ([] : List Value).toArray w.drew := run_firstCells_none w.drew i0.size 0 0 0
      have h := Lib.run_append_grow_zeros w 140 3 ty TE i0 zE .i64 .i64 Try.underlying140 Try.underlying3 hi hz0 none 0 0 [] hold n (by omega) (by omega) (by omega) (by omega)
        (by rw [hz2]; omega) (by rw [Nat.zero_add]; exact growslice_fits (by omega) (by rw [hz2]; omega))
      rw [Nat.zero_add] at h
      exact h
    have hGn : n ≤ grownCap w n 0 TE := grownCap_ge w _ _ _
    have hGm := grownCap_le_maxLen w n 0 TE (by unfold maxLen; omega)
    obtain ⟨G, hG⟩ : ∃ G, G = grownCap w n 0 TE := ⟨_, rfl⟩
    rw [← hG] at hrz hGn hGm
    obtain ⟨cur, hcur⟩ : ∃ cur, cur = Builtin.zeroCells zE.cells n ++ Builtin.zeroCells zE.cells (G - n) := ⟨_, rfl⟩
    have hcz : cur.size = G * 2 := by rw [hcur]; simp [Builtin.zeroCells, show zE.cells.size = 2 from rfl]; omega
    rw [show ([] : List Value).toArray ++ Builtin.zeroCells zE.cells n ++ Builtin.zeroCells zE.cells (G - n) = cur by rw [hcur]; simp] at hrz
    have hO : OwnC ((w.alloc (.cells cur TE)).drew) w.heap.size TE 2 (some ⟨w.heap.size, 0, none⟩) 0 G [] := by
      refine ⟨by simp, .inr ⟨w.heap.size, G, cur, rfl, Nat.le_refl _, ?_, Nat.zero_le _, hGm, by rw [hcz], by simp⟩⟩
      show (w.heap.push _)[w.heap.size]? = some _
      simp
    have HO := Lib.hid hO
    have hn0 : ¬ ((n : Int) < 0) := by omega
    have hp0 : (0 : Int) < n := by omega
    have HG := Lib.hid hGn
    unfold maxLen at hGm
    clear hG hO hcur hcz
    go_enter Try.func123, Try.ntmps123
    go_wp2_with (at_builtin; refine Lib.wpList_append_run _ rfl _ _ _ _ rfl _ _ rfl rfl _ _ (hrz _) ?_)
    all_goals (go_ret; exact ⟨_, _, rfl, HO.out, ((Below.refl _ _).alloc (Nat.le_refl _) _).drew⟩)

/-- Pieces that lie one behind the other in a slice of slices. -/
structure PcE where
  (A : Option Addr) (n c : Nat) (cs : List Value)
def catE (pc : Nat → PcE) : Nat → List Value
  | 0 => []
  | k + 1 => catE pc k ++ (pc k).cs
def numE (pc : Nat → PcE) : Nat → Nat
  | 0 => 0
  | k + 1 => numE pc k + (pc k).n
theorem numE_mono {pc : Nat → PcE} {k m : Nat} (h : k ≤ m) : numE pc k ≤ numE pc m := by
  induction h with
  | refl => exact Nat.le_refl _
  | @step q _ ih =>
    have : numE pc q.succ = numE pc q + (pc q).n := rfl
    omega
def PcAtE (w : World) (B g m : Nat) (pc : Nat → PcE) : Prop := ∀ k, k < m → w.cell? ⟨g, k, none⟩ = some (.slice (pc k).A (pc k).n (pc k).c) ∧ ArgC w B 2 (pc k).A (pc k).n (pc k).c (pc k).cs ∧ (∀ u ∈ (pc k).cs, u.oneCell' = true)
theorem PcAtE.below {w w' : World} {B g m : Nat} {pc : Nat → PcE} (h : PcAtE w B g m pc) (hg : g < B) (hb : Below B w w') : PcAtE w' B g m pc :=
  fun k hk => ⟨(hb.cell (p := ⟨g, k, none⟩) hg).trans (h k hk).1, (h k hk).2.1.below hb, (h k hk).2.2⟩

set_option maxHeartbeats 3200000 in
theorem concatE_any (w : World) (B g m : Nat) (pc : Nat → PcE) (h : PcAtE w B g m pc) (hg : g < B) (hB : B ≤ w.heap.size) (hm : 0 < m) (hm2 : m ≤ 1000) (hl : numE pc m ≤ 1000000) :
    Calls Try.prog 111 #[.slice (some ⟨g, 0, none⟩) m m] w fun e w' => ∃ A c, e = .returned (.slice A (numE pc m) c) ∧ OwnC w' w.heap.size TE 2 A (numE pc m) c (catE pc m) ∧ Below w.heap.size w w' := by
  have H := Lib.hid h
  have HM := Lib.hid (fun k (hk : k ≤ m) => Nat.le_trans (numE_mono (pc := pc) hk) hl)
  have HL := Lib.hid (fun k => show numE pc (k + 1) = numE pc k + (pc k).n from rfl)
  have HC := Lib.hid (fun k => show catE pc (k + 1) = catE pc k ++ (pc k).cs from rfl)
  have HG := Lib.hid (fun w n hn => growE_any w n hn)
  clear h
  go_enter Try.func111, Try.ntmps111
  go_wp2
  go_loop [3, 11] (fun sv iv => ∃ k : Nat, k ≤ m ∧ iv = .int .i64 (k : Int) ∧ sv = .int .i64 ((numE pc k : Nat) : Int)) (fun _ iv => m - (intOf iv).toNat)
  case atStart => exact ⟨0, Nat.zero_le _, rfl, rfl⟩
  case round =>
    obtain ⟨k, hk, rfl, rfl⟩ := hrel
    have hs := HM.out k hk
    rcases Nat.lt_or_ge k m with hlt | hge
    · have hs2 := HM.out (k + 1) hlt
      have hk1 := (H.out k hlt).1
      have hc := (H.out k hlt).2.1.cap
      have hle := (H.out k hlt).2.1.le
      unfold maxLen at hc
      have e := HL.out k
      generalize pc k = P at hk1 hc hle e
      obtain ⟨A, n, c, cs⟩ := P
      simp only at hk1 hc hle e
      have hsn : numE pc k + n ≤ 1000000 := by omega
      have HE := Lib.hid e
      clear e hs2
      generalize numE pc k = s at *
      go_wp2
      all_goals
        go_round
        case rel => exact ⟨k + 1, by omega, by go_num, by rw [HE.out]; go_num⟩
        case measure => simp [intOf]; omega
    · obtain rfl : k = m := by omega
      have HG1 := Lib.hid (fun w => HG.out w (numE pc k) hs)
      generalize hN : numE pc k = N at *
      have HN := Lib.hid hN
      clear hN
      go_wp2_with fail
      with_reducible refine (HG1.out _).mono ?_
      rintro e w1 ⟨A0, c0, rfl, ho, hb⟩
      have HO := Lib.hid ho
      have HB := Lib.hid hb
      clear ho hb
      go_wp2
      go_loopw [6, 27] (fun sv iv wr => ∃ (q : Nat) (A : Option Addr) (c : Nat), q ≤ k ∧ iv = .int .i64 (q : Int) ∧ sv = .slice A (numE pc q) c ∧ OwnC wr w.heap.size TE 2 A (numE pc q) c (catE pc q) ∧ Below w.heap.size w wr) (fun _ iv _ => k - (intOf iv).toNat)
      case atStart => exact ⟨0, A0, c0, Nat.zero_le _, rfl, rfl, HO.out, HB.out⟩
      case round =>
        obtain ⟨q, A, c, hq, rfl, rfl, ho, hb⟩ := hrel
        have HOq := Lib.hid ho
        have HBq := Lib.hid hb
        rcases Nat.lt_or_ge q k with hlt | hge2
        · have hk1 := ((H.out.below hg (hb.mono hB)) q hlt).1
          have HR := Lib.hid ((H.out.below hg (hb.mono hB)) q hlt).2.1
          have HR1 := Lib.hid ((H.out.below hg (hb.mono hB)) q hlt).2.2
          have HE := Lib.hid (HL.out q)
          have hcap := ((H.out.below hg (hb.mono hB)) q hlt).2.1.cap
          have hle := ((H.out.below hg (hb.mono hB)) q hlt).2.1.le
          have hs2 := HM.out (q + 1) hlt
          have HCq := Lib.hid (HC.out q)
          unfold maxLen at hcap
          have hz := hb.size
          have hsum := HE.out
          clear ho hb
          generalize pc q = P at hk1 HR HR1 HE hcap hle HCq hsum
          obtain ⟨S, n, d, cs⟩ := P
          simp only at hk1 hcap hle hsum
          generalize catE pc q = cq at *
          have hbytes : numE pc q + n ≤ 1000000 := by omega
          clear hsum hs2
          generalize hnq : numE pc q = nq at *
          have HNQ := Lib.hid hnq
          clear hnq
          go_wp2_with (refine wpList_append_ents rfl (.tmp 31) (.tmp 32) rfl w.heap.size A nq c cq rfl HOq.out B S n d cs rfl HR.out HR1.out hbytes hz ?_)
          intro A' c' w' ho hb
          have HR2 := Lib.hid (show _ ∧ _ from ⟨ho, HBq.out.trans hb⟩)
          clear ho hb
          go_wp2
          go_roundw
          case rel => exact ⟨q + 1, A', c', by omega, by go_num, by rw [HE.out], by rw [HE.out, HCq.out]; exact HR2.out.1, HR2.out.2⟩
          case measure => simp [intOf]; omega
        · obtain rfl : q = k := by omega
          clear ho hb
          go_wp2
          go_ret
          exact ⟨A, c, by rw [← HN.out]; rfl, HOq.out, HBq.out⟩
end Go.Proofs.Ytpjgpiiibgogeaa
