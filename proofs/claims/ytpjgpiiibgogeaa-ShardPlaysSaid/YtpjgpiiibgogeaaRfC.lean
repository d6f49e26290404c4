/- Contract of the document's map: Put. -/
import Derived.Test.YtpjgpiiibgogeaaRfB
namespace Go.Proofs.Ytpjgpiiibgogeaa
open Go.RowKit
set_option maxRecDepth 100000
set_option linter.unusedVariables false

/-- .. where a block beside the row is kept. -/
theorem wpList_append_e14k {w : World} {ops : Array Oper} {rest : List Oper} {o : Oper} {a : Act} {Q : Exit → Act → World → Prop} (hgd : o.guard = none) (s x : Operand)
    (ho : o.op = .call { callee := .builtin .append, args := #[s, x], argTypes := #[90, 90] })
    (base : Nat) (A : Option Addr) (n c : Nat) (es : List KV) (hs : a.eval s = .slice A n c) (hown : OwnC w base E14 2 A n c (KVs es))
    (g m : Nat) (e : KV) (hx : a.eval x = .slice (some ⟨g, 0, none⟩) 1 m) (hc : BlkL w g e.cells) (hn : n + 1 ≤ 1000000) (hbase : base ≤ w.heap.size) (K : Nat) (xs : List Value) (hK : BlkL w K xs) (hne : ∀ g, A = some g → g.block ≠ K)
    (h : ∀ A' c' w', OwnC w' base E14 2 A' (n + 1) c' (KVs (es ++ [e])) → Below base w w' → BlkL w' K xs → wpList Try.prog ops Q rest (a.put o.dst (.slice A' (n + 1) c')) w') : wpList Try.prog ops Q (o :: rest) a w := by
  obtain ⟨i0, hi, hz0, hz1, hz2⟩ := info_parts ent14_info
  have hlt := fun k hk => (World.ownsRow.lt hown k hk).1
  refine wpList_append_own w hgd s x 90 ho base E14 i0 zE 2 32 Try.underlying90 hi hz0 hz1 hz2 rfl (by decide) _ n _ hs hown ⟨g, 0, none⟩ 1 m e.cells hx rfl (fun j u hj => ?_) (by intro u hu; simp only [KV.cells, List.mem_cons, List.not_mem_nil, or_false] at hu; rcases hu with rfl | rfl <;> rfl) (by unfold maxLen; omega) (by omega) hbase ?_
  · have e2 : (⟨g, 0, none⟩ : Addr).add j = ⟨g, j, none⟩ := by unfold Addr.add; split <;> simp_all
    rw [e2]; exact hc.cell j u hj
  · intro v' w' h2 h3 h4
    have hb' : Below base w w' := (Below.refl _ _).grown h3 hbase hlt
    have hKb : w'.heap[K]? = w.heap[K]? := h3.block K hK.lt (fun e => by
      cases A with
      | none => simp [Value.ownBlock] at e
      | some a => simp [Value.ownBlock] at e; exact hne a rfl e.symm)
    have hK' : BlkL w' K xs := ⟨Nat.lt_of_lt_of_le hK.lt h3.size, fun i v hv => (World.cell?_of_block (w := w) (a := ⟨K, i, none⟩) hKb).trans (hK.cell i v hv), fun i hi => (World.frozen?_of_block (w := w) (a := ⟨K, i, none⟩) hKb).trans (hK.froz i hi)⟩
    rw [show e.cells = KVs [e] by simp [KVs], ← KVs_append] at h2
    rcases h2.2 with ⟨e, e2⟩ | ⟨g, cap, cur, e, _⟩
    · omega
    · subst e
      exact h _ _ _ h2 hb' hK'

set_option maxHeartbeats 12800000 in
theorem put14_any (w : World) (B B' : Nat) (S : List Nat) (A A' : Option Addr) (n c m d : Nat) (es : List KV) (ks : List Nat) (x : Int) (h : VerA w B S A n c es) (h' : Arg w B' A' m d ks) (ho : srtK (es.map KV.ent)) (hn : n ≤ 100000) (hB : B ≤ w.heap.size) (hB' : B' ≤ w.heap.size) :
    Calls Try.prog 75 #[.slice A n c, .slice A' m d, .int .i64 x] w fun e w' => ∃ A2 n2 c2, e = .returned (.slice A2 n2 c2) ∧ OwnC w' w.heap.size E14 2 A2 n2 c2 (KVs (es.take (plK (es.map KV.ent) ks) ++ ⟨A', m, d, ks, x⟩ :: es.drop (plK (es.map KV.ent) ks + (hasK (es.map KV.ent) ks).toNat))) ∧ Below w.heap.size w w' := by
  have hl := h.len
  have hle := h.arg.le
  have hcap := h.arg.cap
  unfold maxLen at hcap
  have HV := Lib.hid h
  have hpn := plK_le (es.map KV.ent) ks
  rw [List.length_map, hl] at hpn
  have HE := Lib.hid (fun i (hi : i < n) => ent_at es i (by omega))
  have HLEN := Lib.hid hl
  have hlo : ∀ i, i < plK (es.map KV.ent) ks → 0 < orderV ks (es.getD i noKV).zs := fun i hi => by
    have h1 := plK_lt (l := es.map KV.ent) (k := ks) ((es.map KV.ent).getD i noE) (by
      rw [getD_at (by rw [List.length_map, hl]; omega)]
      exact List.mem_iff_getElem.mpr ⟨i, by rw [List.length_take, List.length_map, hl]; omega, by rw [List.getElem_take]⟩)
    rw [HE.out i (by omega)] at h1
    have := orderV_neg (es.getD i noKV).zs ks
    simp only at h1; omega
  have hhi : ∀ i, plK (es.map KV.ent) ks + (hasK (es.map KV.ent) ks).toNat ≤ i → i < n → orderV ks (es.getD i noKV).zs < 0 := fun i hi hi2 => by
    have h1 := drop_gt ho (k := ks) ((es.map KV.ent).getD i noE) (by
      rw [getD_at (by rw [List.length_map, hl]; omega)]
      exact List.mem_iff_getElem.mpr ⟨i - (plK (es.map KV.ent) ks + (hasK (es.map KV.ent) ks).toNat), by rw [List.length_drop, List.length_map, hl]; omega, by rw [List.getElem_drop]; congr 1; omega⟩)
    rw [HE.out i hi2] at h1
    have := orderV_neg (es.getD i noKV).zs ks
    simp only at h1; omega
  have hat : hasK (es.map KV.ent) ks = true → plK (es.map KV.ent) ks < n ∧ orderV ks (es.getD (plK (es.map KV.ent) ks) noKV).zs = 0 := fun hh => by
    have hp := (has_key hh).1
    have hke := (has_key hh).2
    rw [List.length_map, hl] at hp
    rw [HE.out _ hp] at hke
    simp only at hke
    exact ⟨hp, by rw [hke]; exact orderV_self _⟩
  have HF := Lib.hid (fun (wr : World) (hb : Below w.heap.size w wr) i (hi : i < n) => rorder_any wr B' B A' (es.getD i noKV).A m d (es.getD i noKV).n (es.getD i noKV).c ks _ (h'.below (hb.mono hB')) ((h.key _ (kv_mem (by omega))).1.below (hb.mono hB)))
  generalize plK (es.map KV.ent) ks = p at *
  generalize hasK (es.map KV.ent) ks = hb0 at *
  have HO := Lib.hid (And.intro hlo (And.intro hat hhi))
  clear h h' ho hlo hat hhi hl
  obtain ⟨q, hq⟩ : ∃ q, q = hb0.toNat := ⟨_, rfl⟩
  have hq1 : q ≤ 1 := by rw [hq]; cases hb0 <;> simp
  rw [← hq] at HO ⊢
  have HQ := Lib.hid hq
  clear hq
  go_enter Try.func75, Try.ntmps75
  go_wp2
  go_loopw [7, 8, 14] (fun ov dv iv wr => ∃ (i : Nat) (A2 : Option Addr) (c2 : Nat), i ≤ n ∧ iv = .int .i64 (i : Int) ∧ dv = .bool (decide (p < i)) ∧ ov = .slice A2 (preP es ⟨A', m, d, ks, x⟩ p q i).length c2 ∧ OwnC wr w.heap.size E14 2 A2 (preP es ⟨A', m, d, ks, x⟩ p q i).length c2 (KVs (preP es ⟨A', m, d, ks, x⟩ p q i)) ∧ Below w.heap.size w wr) (fun _ _ iv _ => n - (intOf iv).toNat)
  case atStart => exact ⟨0, none, 0, Nat.zero_le _, rfl, by simp, by simp [preP], by simp only [preP, Nat.zero_le, if_true, List.take_zero]; exact OwnC.nil _ _ _ _, Below.refl _ _⟩
  case round =>
    obtain ⟨i, A2, c2, hi, rfl, rfl, rfl, hown, hbw⟩ := hrel
    have hpl := preP_len es ⟨A', m, d, ks, x⟩ p q i
    have hsz := hbw.size
    rcases Nat.lt_or_ge i n with hlt | hge
    · obtain ⟨g, off, rfl, hgB, hc0, hc1⟩ := (HV.out.below (hbw.mono hB)).at_ (i := i) hlt
      have hb2 : Below w.heap.size w (wr.alloc (.cells #[.slice (es.getD i noKV).A (es.getD i noKV).n (es.getD i noKV).c, .int .i64 (es.getD i noKV).v] 155)) := hbw.alloc hbw.size _
      have HX := Lib.hid (HF.out _ hb2 i hlt)
      have HBW := Lib.hid hb2
      have HOW := Lib.hid hown
      have i0 : (0 : Int) ≤ (i : Int) := by omega
      have i1 : (i : Int) < (n : Int) := by omega
      have hil : i < es.length := by rw [HLEN.out]; exact hlt
      rcases Nat.lt_trichotomy i p with hip | hip | hip
      · have ho := HO.out.1 i hip
        have hd : decide (p < i) = false := by simp; omega
        have hd2 : decide (p < i + 1) = false := by simp; omega
        have hpre := preP_lo (e := ⟨A', m, d, ks, x⟩) (h := q) hip hil
        have HPRE := Lib.hid hpre
        have HD2 := Lib.hid hd2
        rw [hd]
        clear hpre hb2 hbw hown hd hd2
        generalize es.getD i noKV = y at *
        obtain ⟨xA, xn, xc, xz, xv⟩ := y
        simp only at hc0 hc1 HX HBW ho
        generalize orderV ks xz = o at *
        generalize hpd : preP es ⟨A', m, d, ks, x⟩ p q i = pd at *
        have HPD := Lib.hid hpd
        clear hpd
        have HX2 : Hid (Calls Try.prog 92 #[.slice A' m d, .slice xA xn xc] (wr.alloc (.cells #[.slice xA xn xc, .int .i64 xv] 155)) fun e w' => e = .returned (.int .i64 o) ∧ OwnC w' w.heap.size E14 2 A2 pd.length c2 (KVs pd) ∧ Below w.heap.size w w' ∧ BlkL w' wr.heap.size [.slice xA xn xc, .int .i64 xv]) := Lib.hid (HX.out.mono fun e w' ⟨he, t, ht⟩ => ⟨he, by rw [ht]; exact (HOW.out.below ((Below.refl _ wr).alloc (Nat.le_refl _) _)).drewN t, by rw [ht]; exact below_drews HBW.out t, by rw [ht]; exact (BlkL.new wr _ _).drewN t⟩)
        have HNE : Hid (∀ g, A2 = some g → g.block ≠ wr.heap.size) := Lib.hid (fun g hg => by subst hg; have := (World.ownsRow.lt HOW.out g.block rfl).2; omega)
        clear HX HOW
        have q1 : ¬ o ≤ 0 := by omega
        have q2 : (o != 0) = true := by simp; omega
        go_wp2_with fail
        with_reducible refine (HX2.out).mono ?_
        rintro e w1 ⟨rfl, ho1, hb1, hk1⟩
        have hz1 := hb1.size
        have k0 := hk1.cell 0 _ rfl
        have k1 := hk1.cell 1 _ rfl
        have kl := hk1.lt
        have HK1 := Lib.hid hk1
        clear hk1 HX2
        have ho2 := ho1.below ((Below.refl _ w1).alloc (Nat.le_refl _) (.cells #[.slice xA xn xc, .int .i64 xv] 155))
        have HB2 := Lib.hid (hb1.alloc hz1 (.cells #[.slice xA xn xc, .int .i64 xv] 155))
        have HO2 := Lib.hid ho2
        have HK2 := Lib.hid (BlkL.new w1 [.slice xA xn xc, .int .i64 xv] 155)
        have hz2 : w.heap.size ≤ (w1.alloc (.cells #[.slice xA xn xc, .int .i64 xv] 155)).heap.size := by rw [World.size_alloc]; omega
        clear ho1 hb1 ho2
        go_wp2_with (refine wpList_append_e14 rfl (.tmp 36) (.tmp 38) rfl w.heap.size A2 pd.length c2 pd rfl HO2.out w1.heap.size 1 ⟨xA, xn, xc, xz, xv⟩ rfl HK2.out (by omega) hz2 ?_)
        intro A3 c3 w3 ho3 hb3
        have HOB := Lib.hid (And.intro ho3 (HB2.out.trans hb3))
        clear ho3 hb3
        go_wp2
        go_roundw
        case rel => exact ⟨i + 1, A3, c3, by omega, by go_num, by rw [HD2.out], by rw [HPRE.out, List.length_append]; rfl, by rw [HPRE.out, List.length_append]; exact HOB.out.1, HOB.out.2⟩
        case measure => simp [intOf]; omega
      · subst hip
        have hd : decide (i < i) = false := by simp
        have hd2 : decide (i < i + 1) = true := by simp
        rcases Nat.eq_zero_or_pos q with hq0 | hq0
        · have ho := HO.out.2.2 i (by omega) hlt
          subst hq0
          have hpre := preP_at0 (e := ⟨A', m, d, ks, x⟩) hil
          have HPRE := Lib.hid hpre
          have HD2 := Lib.hid hd2
          rw [hd]
          clear hpre hb2 hbw hown hd hd2
          generalize es.getD i noKV = y at *
          obtain ⟨xA, xn, xc, xz, xv⟩ := y
          simp only at hc0 hc1 HX HBW ho
          generalize orderV ks xz = o at *
          generalize hpd : preP es ⟨A', m, d, ks, x⟩ i 0 i = pd at *
          have HPD := Lib.hid hpd
          clear hpd
          have HX2 : Hid (Calls Try.prog 92 #[.slice A' m d, .slice xA xn xc] (wr.alloc (.cells #[.slice xA xn xc, .int .i64 xv] 155)) fun e w' => e = .returned (.int .i64 o) ∧ OwnC w' w.heap.size E14 2 A2 pd.length c2 (KVs pd) ∧ Below w.heap.size w w' ∧ BlkL w' wr.heap.size [.slice xA xn xc, .int .i64 xv]) := Lib.hid (HX.out.mono fun e w' ⟨he, t, ht⟩ => ⟨he, by rw [ht]; exact (HOW.out.below ((Below.refl _ wr).alloc (Nat.le_refl _) _)).drewN t, by rw [ht]; exact below_drews HBW.out t, by rw [ht]; exact (BlkL.new wr _ _).drewN t⟩)
          have HNE : Hid (∀ g, A2 = some g → g.block ≠ wr.heap.size) := Lib.hid (fun g hg => by subst hg; have := (World.ownsRow.lt HOW.out g.block rfl).2; omega)
          clear HX HOW
          have q1 : o ≤ 0 := by omega
          have q2 : (o != 0) = true := by simp; omega
          go_wp2_with fail
          with_reducible refine (HX2.out).mono ?_
          rintro e w1 ⟨rfl, ho1, hb1, hk1⟩
          have hz1 := hb1.size
          have k0 := hk1.cell 0 _ rfl
          have k1 := hk1.cell 1 _ rfl
          have kl := hk1.lt
          have HK1 := Lib.hid hk1
          clear hk1 HX2
          have ho2 := ho1.below ((Below.refl _ w1).alloc (Nat.le_refl _) (.cells #[.slice A' m d, .int .i64 x] 155))
          have HB2 := Lib.hid (hb1.alloc hz1 (.cells #[.slice A' m d, .int .i64 x] 155))
          have HO2 := Lib.hid ho2
          have HK2 := Lib.hid (BlkL.new w1 [.slice A' m d, .int .i64 x] 155)
          have hz2 : w.heap.size ≤ (w1.alloc (.cells #[.slice A' m d, .int .i64 x] 155)).heap.size := by rw [World.size_alloc]; omega
          have HKK := Lib.hid (HK1.out.alloc (.cells #[.slice A' m d, .int .i64 x] 155))
          clear ho1 hb1 ho2 k0 k1 kl
          go_wp2_with (refine wpList_append_e14k rfl (.tmp 28) (.tmp 32) rfl w.heap.size A2 pd.length c2 pd rfl HO2.out w1.heap.size 1 ⟨A', m, d, ks, x⟩ rfl HK2.out (by omega) hz2 wr.heap.size _ HKK.out HNE.out ?_)
          intro A3 c3 w3 ho3 hb3 hk3
          have hb4 := HB2.out.trans hb3
          have hz4 := hb4.size
          have k0 := hk3.cell 0 _ rfl
          have k1 := hk3.cell 1 _ rfl
          have kl := hk3.lt
          have ho5 := ho3.below ((Below.refl _ w3).alloc (Nat.le_refl _) (.cells #[.slice xA xn xc, .int .i64 xv] 155))
          have HB5 := Lib.hid (hb4.alloc hz4 (.cells #[.slice xA xn xc, .int .i64 xv] 155))
          have HO5 := Lib.hid ho5
          have HK5 := Lib.hid (BlkL.new w3 [.slice xA xn xc, .int .i64 xv] 155)
          have hz5 : w.heap.size ≤ (w3.alloc (.cells #[.slice xA xn xc, .int .i64 xv] 155)).heap.size := by rw [World.size_alloc]; omega
          clear ho3 hb3 hk3 hb4 ho5 HB2 HO2 HK2 HKK
          go_wp2_with (refine wpList_append_e14 rfl (.tmp 36) (.tmp 38) rfl w.heap.size A3 (pd.length + 1) c3 (pd ++ [⟨A', m, d, ks, x⟩]) rfl HO5.out w3.heap.size 1 ⟨xA, xn, xc, xz, xv⟩ rfl HK5.out (by omega) hz5 ?_)
          intro A4 c4 w4 ho6 hb6
          have HOB := Lib.hid (And.intro ho6 (HB5.out.trans hb6))
          clear ho6 hb6
          have hlen3 : (preP es ⟨A', m, d, ks, x⟩ i 0 (i + 1)).length = pd.length + 1 + 1 := by rw [HPRE.out]; simp
          have HL3 := Lib.hid hlen3
          clear hlen3
          go_wp2
          go_roundw
          case rel => exact ⟨i + 1, A4, c4, by omega, by go_num, by rw [HD2.out], by rw [HL3.out], by rw [HL3.out, HPRE.out, List.append_assoc]; exact HOB.out.1, HOB.out.2⟩
          case measure => simp [intOf]; omega
        · obtain rfl : q = 1 := by omega
          have hbt : hb0 = true := by have := HQ.out; cases hb0 <;> simp at this ⊢
          have ho := (HO.out.2.1 hbt).2
          have hpre := preP_at1 (e := ⟨A', m, d, ks, x⟩) hil
          have HPRE := Lib.hid hpre
          have HD2 := Lib.hid hd2
          rw [hd]
          clear hpre hb2 hbw hown hd hd2
          generalize es.getD i noKV = y at *
          obtain ⟨xA, xn, xc, xz, xv⟩ := y
          simp only at hc0 hc1 HX HBW ho
          generalize orderV ks xz = o at *
          generalize hpd : preP es ⟨A', m, d, ks, x⟩ i 1 i = pd at *
          have HPD := Lib.hid hpd
          clear hpd
          have HX2 : Hid (Calls Try.prog 92 #[.slice A' m d, .slice xA xn xc] (wr.alloc (.cells #[.slice xA xn xc, .int .i64 xv] 155)) fun e w' => e = .returned (.int .i64 o) ∧ OwnC w' w.heap.size E14 2 A2 pd.length c2 (KVs pd) ∧ Below w.heap.size w w' ∧ BlkL w' wr.heap.size [.slice xA xn xc, .int .i64 xv]) := Lib.hid (HX.out.mono fun e w' ⟨he, t, ht⟩ => ⟨he, by rw [ht]; exact (HOW.out.below ((Below.refl _ wr).alloc (Nat.le_refl _) _)).drewN t, by rw [ht]; exact below_drews HBW.out t, by rw [ht]; exact (BlkL.new wr _ _).drewN t⟩)
          have HNE : Hid (∀ g, A2 = some g → g.block ≠ wr.heap.size) := Lib.hid (fun g hg => by subst hg; have := (World.ownsRow.lt HOW.out g.block rfl).2; omega)
          clear HX HOW
          have q1 : o ≤ 0 := by omega
          have q2 : (o != 0) = false := by simp; omega
          go_wp2_with fail
          with_reducible refine (HX2.out).mono ?_
          rintro e w1 ⟨rfl, ho1, hb1, hk1⟩
          have hz1 := hb1.size
          have k0 := hk1.cell 0 _ rfl
          have k1 := hk1.cell 1 _ rfl
          have kl := hk1.lt
          have HK1 := Lib.hid hk1
          clear hk1 HX2
          have ho2 := ho1.below ((Below.refl _ w1).alloc (Nat.le_refl _) (.cells #[.slice A' m d, .int .i64 x] 155))
          have HB2 := Lib.hid (hb1.alloc hz1 (.cells #[.slice A' m d, .int .i64 x] 155))
          have HO2 := Lib.hid ho2
          have HK2 := Lib.hid (BlkL.new w1 [.slice A' m d, .int .i64 x] 155)
          have hz2 : w.heap.size ≤ (w1.alloc (.cells #[.slice A' m d, .int .i64 x] 155)).heap.size := by rw [World.size_alloc]; omega
          clear ho1 hb1 ho2
          go_wp2_with (refine wpList_append_e14 rfl (.tmp 28) (.tmp 32) rfl w.heap.size A2 pd.length c2 pd rfl HO2.out w1.heap.size 1 ⟨A', m, d, ks, x⟩ rfl HK2.out (by omega) hz2 ?_)
          intro A3 c3 w3 ho3 hb3
          have HOB := Lib.hid (And.intro ho3 (HB2.out.trans hb3))
          clear ho3 hb3
          go_wp2
          go_roundw
          case rel => exact ⟨i + 1, A3, c3, by omega, by go_num, by rw [HD2.out], by rw [HPRE.out, List.length_append]; rfl, by rw [HPRE.out, List.length_append]; exact HOB.out.1, HOB.out.2⟩
          case measure => simp [intOf]; omega
      · have ho := HO.out.2.2 i (by omega) hlt
        have hd : decide (p < i) = true := by simpa using hip
        have hd2 : decide (p < i + 1) = true := by simp; omega
        have hpre := preP_hi (e := ⟨A', m, d, ks, x⟩) hip hq1 hil
        have HPRE := Lib.hid hpre
        have HD2 := Lib.hid hd2
        rw [hd]
        clear hpre hb2 hbw hown hd hd2
        generalize es.getD i noKV = y at *
        obtain ⟨xA, xn, xc, xz, xv⟩ := y
        simp only at hc0 hc1 HX HBW ho
        generalize orderV ks xz = o at *
        generalize hpd : preP es ⟨A', m, d, ks, x⟩ p q i = pd at *
        have HPD := Lib.hid hpd
        clear hpd
        have HX2 : Hid (Calls Try.prog 92 #[.slice A' m d, .slice xA xn xc] (wr.alloc (.cells #[.slice xA xn xc, .int .i64 xv] 155)) fun e w' => e = .returned (.int .i64 o) ∧ OwnC w' w.heap.size E14 2 A2 pd.length c2 (KVs pd) ∧ Below w.heap.size w w' ∧ BlkL w' wr.heap.size [.slice xA xn xc, .int .i64 xv]) := Lib.hid (HX.out.mono fun e w' ⟨he, t, ht⟩ => ⟨he, by rw [ht]; exact (HOW.out.below ((Below.refl _ wr).alloc (Nat.le_refl _) _)).drewN t, by rw [ht]; exact below_drews HBW.out t, by rw [ht]; exact (BlkL.new wr _ _).drewN t⟩)
        have HNE : Hid (∀ g, A2 = some g → g.block ≠ wr.heap.size) := Lib.hid (fun g hg => by subst hg; have := (World.ownsRow.lt HOW.out g.block rfl).2; omega)
        clear HX HOW
        have q1 : o ≤ 0 := by omega
        have q2 : (o != 0) = true := by simp; omega
        go_wp2_with fail
        with_reducible refine (HX2.out).mono ?_
        rintro e w1 ⟨rfl, ho1, hb1, hk1⟩
        have hz1 := hb1.size
        have k0 := hk1.cell 0 _ rfl
        have k1 := hk1.cell 1 _ rfl
        have kl := hk1.lt
        have HK1 := Lib.hid hk1
        clear hk1 HX2
        have ho2 := ho1.below ((Below.refl _ w1).alloc (Nat.le_refl _) (.cells #[.slice xA xn xc, .int .i64 xv] 155))
        have HB2 := Lib.hid (hb1.alloc hz1 (.cells #[.slice xA xn xc, .int .i64 xv] 155))
        have HO2 := Lib.hid ho2
        have HK2 := Lib.hid (BlkL.new w1 [.slice xA xn xc, .int .i64 xv] 155)
        have hz2 : w.heap.size ≤ (w1.alloc (.cells #[.slice xA xn xc, .int .i64 xv] 155)).heap.size := by rw [World.size_alloc]; omega
        clear ho1 hb1 ho2
        go_wp2_with (refine wpList_append_e14 rfl (.tmp 36) (.tmp 38) rfl w.heap.size A2 pd.length c2 pd rfl HO2.out w1.heap.size 1 ⟨xA, xn, xc, xz, xv⟩ rfl HK2.out (by omega) hz2 ?_)
        intro A3 c3 w3 ho3 hb3
        have HOB := Lib.hid (And.intro ho3 (HB2.out.trans hb3))
        clear ho3 hb3
        go_wp2
        go_roundw
        case rel => exact ⟨i + 1, A3, c3, by omega, by go_num, by rw [HD2.out], by rw [HPRE.out, List.length_append]; rfl, by rw [HPRE.out, List.length_append]; exact HOB.out.1, HOB.out.2⟩
        case measure => simp [intOf]; omega
    · obtain rfl : i = n := by omega
      have i1 : ¬ (i : Int) < (i : Int) := by omega
      rcases Nat.lt_or_ge p i with hpi | hpi
      · have hd : decide (p < i) = true := by simpa using hpi
        have hend : preP es ⟨A', m, d, ks, x⟩ p q i = es.take p ++ ⟨A', m, d, ks, x⟩ :: es.drop (p + q) := by
          unfold preP; rw [if_neg (by omega), ← HLEN.out, List.take_length]
        have HEND := Lib.hid hend
        have HOB := Lib.hid (And.intro hown hbw)
        rw [hd]
        clear hown hbw hend hd
        go_wp2
        go_ret
        exact ⟨A2, _, c2, rfl, by rw [← HEND.out]; exact HOB.out.1, HOB.out.2⟩
      · have hd : decide (p < i) = false := by simp; omega
        obtain rfl : p = i := by omega
        have hq0 : q = 0 := by
          rcases Nat.eq_zero_or_pos q with h | h
          · exact h
          · have hbt : hb0 = true := by have := HQ.out; cases hb0 <;> simp at this ⊢; omega
            have := (HO.out.2.1 hbt).1
            omega
        subst hq0
        have hend : preP es ⟨A', m, d, ks, x⟩ p 0 p ++ [⟨A', m, d, ks, x⟩] = es.take p ++ ⟨A', m, d, ks, x⟩ :: es.drop (p + 0) := by
          unfold preP; rw [if_pos (Nat.le_refl _), List.drop_eq_nil_of_le (by rw [HLEN.out]; omega)]
        have HEND := Lib.hid hend
        have ho2 := hown.below ((Below.refl _ wr).alloc (Nat.le_refl _) (.cells #[.slice A' m d, .int .i64 x] 155))
        have HB2 := Lib.hid (hbw.alloc hsz (.cells #[.slice A' m d, .int .i64 x] 155))
        have HO2 := Lib.hid ho2
        have HK2 := Lib.hid (BlkL.new wr [.slice A' m d, .int .i64 x] 155)
        have hz2 : w.heap.size ≤ (wr.alloc (.cells #[.slice A' m d, .int .i64 x] 155)).heap.size := by rw [World.size_alloc]; omega
        rw [hd]
        clear hown hbw hend hd ho2
        generalize preP es ⟨A', m, d, ks, x⟩ p 0 p = pd at *
        go_wp2_with (refine wpList_append_e14 rfl (.tmp 43) (.tmp 47) rfl w.heap.size A2 pd.length c2 pd rfl HO2.out wr.heap.size 1 ⟨A', m, d, ks, x⟩ rfl HK2.out (by omega) hz2 ?_)
        intro A3 c3 w3 ho3 hb3
        have HOB := Lib.hid (And.intro ho3 (HB2.out.trans hb3))
        clear ho3 hb3
        go_wp2
        go_ret
        exact ⟨A3, _, c3, rfl, by rw [← HEND.out]; exact HOB.out.1, HOB.out.2⟩
end Go.Proofs.Ytpjgpiiibgogeaa
