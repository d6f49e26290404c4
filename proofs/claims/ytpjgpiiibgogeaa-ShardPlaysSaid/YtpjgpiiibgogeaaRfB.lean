/- Contracts of the document's map: Drop, Put. -/
import Derived.Test.YtpjgpiiibgogeaaRfA
namespace Go.Proofs.Ytpjgpiiibgogeaa
open Go.RowKit
set_option maxRecDepth 100000
set_option linter.unusedVariables false

theorem ent14_info : (Try.prog.info? 155).map (fun i => (i.zero, i.size, i.bytes)) = some (some zE, 2, 32) := by kernel_rfl
abbrev E14 : TypeId := 155
/-- An append of one entry that lies in a block of its own. -/
theorem wpList_append_e14 {w : World} {ops : Array Oper} {rest : List Oper} {o : Oper} {a : Act} {Q : Exit → Act → World → Prop} (hgd : o.guard = none) (s x : Operand)
    (ho : o.op = .call { callee := .builtin .append, args := #[s, x], argTypes := #[90, 90] })
    (base : Nat) (A : Option Addr) (n c : Nat) (es : List KV) (hs : a.eval s = .slice A n c) (hown : OwnC w base E14 2 A n c (KVs es))
    (g m : Nat) (e : KV) (hx : a.eval x = .slice (some ⟨g, 0, none⟩) 1 m) (hc : BlkL w g e.cells) (hn : n + 1 ≤ 1000000) (hbase : base ≤ w.heap.size)
    (h : ∀ A' c' w', OwnC w' base E14 2 A' (n + 1) c' (KVs (es ++ [e])) → Below base w w' → wpList Try.prog ops Q rest (a.put o.dst (.slice A' (n + 1) c')) w') : wpList Try.prog ops Q (o :: rest) a w :=
  wpList_append_row hgd s x 90 ho base E14 zE 2 32 Try.underlying90 ent14_info rfl (by decide) A n c (KVs es) hs hown g m e.cells hx rfl hc.cell
    (by intro u hu; simp only [KV.cells, List.mem_cons, List.not_mem_nil, or_false] at hu; rcases hu with rfl | rfl <;> rfl) (by unfold maxLen; omega) (by omega) hbase
    (fun A' c' w' ho' hb' => h A' c' w' (by rw [KVs_append, show KVs [e] = e.cells by simp [KVs]]; exact ho') hb')

def preD (es : List KV) (p i : Nat) : List KV := if i ≤ p then es.take i else es.take p ++ (es.take i).drop (p + 1)
theorem preD_lo {es : List KV} {p i : Nat} (h : i < p) (hi : i < es.length) : preD es p (i + 1) = preD es p i ++ [es.getD i noKV] := by
  unfold preD
  rw [if_pos (by omega), if_pos (by omega), List.take_succ_eq_append_getElem hi]
  simp [List.getD_eq_getElem?_getD, hi]
theorem preD_at {es : List KV} {p : Nat} (hi : p < es.length) : preD es p (p + 1) = preD es p p := by
  unfold preD
  rw [if_neg (by omega), if_pos (Nat.le_refl _)]
  have : (es.take (p + 1)).drop (p + 1) = [] := List.drop_eq_nil_of_le (by simp; omega)
  rw [this, List.append_nil]
theorem preD_hi {es : List KV} {p i : Nat} (h : p < i) (hi : i < es.length) : preD es p (i + 1) = preD es p i ++ [es.getD i noKV] := by
  unfold preD
  rw [if_neg (by omega), if_neg (by omega), List.take_succ_eq_append_getElem hi, List.drop_append_of_le_length (by simp; omega), List.append_assoc]
  simp [List.getD_eq_getElem?_getD, hi]
theorem preD_end {es : List KV} {p : Nat} (hp : p < es.length) : preD es p es.length = es.take p ++ es.drop (p + 1) := by
  unfold preD
  rw [if_neg (by omega), List.take_length]
theorem preD_len (es : List KV) (p i : Nat) : (preD es p i).length ≤ i := by
  unfold preD; split <;> simp <;> omega
def preP (es : List KV) (e : KV) (p h i : Nat) : List KV := if i ≤ p then es.take i else es.take p ++ e :: (es.take i).drop (p + h)
theorem preP_lo {es : List KV} {e : KV} {p h i : Nat} (hh : i < p) (hi : i < es.length) : preP es e p h (i + 1) = preP es e p h i ++ [es.getD i noKV] := by
  unfold preP
  rw [if_pos (by omega), if_pos (by omega), List.take_succ_eq_append_getElem hi]
  simp [List.getD_eq_getElem?_getD, hi]
theorem preP_at1 {es : List KV} {e : KV} {p : Nat} (hi : p < es.length) : preP es e p 1 (p + 1) = preP es e p 1 p ++ [e] := by
  unfold preP
  rw [if_neg (by omega), if_pos (Nat.le_refl _)]
  have : (es.take (p + 1)).drop (p + 1) = [] := List.drop_eq_nil_of_le (by simp; omega)
  rw [this]
theorem preP_at0 {es : List KV} {e : KV} {p : Nat} (hi : p < es.length) : preP es e p 0 (p + 1) = preP es e p 0 p ++ [e] ++ [es.getD p noKV] := by
  unfold preP
  rw [if_neg (by omega), if_pos (Nat.le_refl _)]
  have : (es.take (p + 1)).drop (p + 0) = [es.getD p noKV] := by
    rw [List.take_succ_eq_append_getElem hi, Nat.add_zero, List.drop_append_of_le_length (by simp; omega)]
    simp [List.getD_eq_getElem?_getD, hi]
  rw [this]; simp
theorem preP_hi {es : List KV} {e : KV} {p h i : Nat} (hh : p < i) (h1 : h ≤ 1) (hi : i < es.length) : preP es e p h (i + 1) = preP es e p h i ++ [es.getD i noKV] := by
  unfold preP
  rw [if_neg (by omega), if_neg (by omega), List.take_succ_eq_append_getElem hi, List.drop_append_of_le_length (by simp; omega), List.append_assoc]
  simp [List.getD_eq_getElem?_getD, hi]
theorem preP_len (es : List KV) (e : KV) (p h i : Nat) : (preP es e p h i).length ≤ i + 1 := by
  unfold preP; split <;> simp <;> omega

set_option maxHeartbeats 6400000 in
theorem drop14_any (w : World) (B B' : Nat) (S : List Nat) (A A' : Option Addr) (n c m d : Nat) (es : List KV) (ks : List Nat) (h : VerA w B S A n c es) (h' : Arg w B' A' m d ks) (ho : srtK (es.map KV.ent)) (hn : n ≤ 100000) (hB : B ≤ w.heap.size) (hB' : B' ≤ w.heap.size) (hh : hasK (es.map KV.ent) ks = true) :
    Calls Try.prog 74 #[.slice A n c, .slice A' m d] w fun e w' => ∃ A2 n2 c2, e = .returned (.slice A2 n2 c2) ∧ OwnC w' w.heap.size E14 2 A2 n2 c2 (KVs (es.take (plK (es.map KV.ent) ks) ++ es.drop (plK (es.map KV.ent) ks + 1))) ∧ Below w.heap.size w w' := by
  have hl := h.len
  have hle := h.arg.le
  have hcap := h.arg.cap
  unfold maxLen at hcap
  have HV := Lib.hid h
  have hp := (has_key hh).1
  have hke := (has_key hh).2
  rw [List.length_map, hl] at hp
  have HE := Lib.hid (fun i (hi : i < n) => ent_at es i (by omega))
  have HLEN := Lib.hid hl
  have hlo : ∀ i, i < plK (es.map KV.ent) ks → orderV ks (es.getD i noKV).zs ≠ 0 := fun i hi => by
    have h1 := srt_lt ho hi (by rw [List.length_map, hl]; exact hp)
    rw [hke, HE.out i (by omega)] at h1
    have := orderV_neg (es.getD i noKV).zs ks
    simp only at h1; omega
  have hat : orderV ks (es.getD (plK (es.map KV.ent) ks) noKV).zs = 0 := by
    have := HE.out _ hp
    rw [this] at hke
    simp only at hke
    rw [hke]; exact orderV_self _
  have hhi : ∀ i, plK (es.map KV.ent) ks < i → i < n → orderV ks (es.getD i noKV).zs ≠ 0 := fun i hi hi2 => by
    have h1 := srt_lt ho hi (by rw [List.length_map, hl]; exact hi2)
    rw [hke, HE.out i hi2] at h1
    simp only at h1; omega
  have HF := Lib.hid (fun (wr : World) (hb : Below w.heap.size w wr) i (hi : i < n) => rorder_any wr B' B A' (es.getD i noKV).A m d (es.getD i noKV).n (es.getD i noKV).c ks _ (h'.below (hb.mono hB')) ((h.key _ (kv_mem (by omega))).1.below (hb.mono hB)))
  generalize plK (es.map KV.ent) ks = p at *
  have HO := Lib.hid (And.intro hlo (And.intro hat hhi))
  have HEND := Lib.hid (preD_end (es := es) (p := p) (by omega))
  clear h h' ho hlo hat hhi hke hl hh
  go_enter Try.func74, Try.ntmps74
  go_wp2
  go_loopw [5, 10] (fun ov iv wr => ∃ (i : Nat) (A2 : Option Addr) (c2 : Nat), i ≤ n ∧ iv = .int .i64 (i : Int) ∧ ov = .slice A2 (preD es p i).length c2 ∧ OwnC wr w.heap.size E14 2 A2 (preD es p i).length c2 (KVs (preD es p i)) ∧ Below w.heap.size w wr) (fun _ iv _ => n - (intOf iv).toNat)
  case atStart => exact ⟨0, none, 0, Nat.zero_le _, rfl, rfl, OwnC.nil _ _ _ _, Below.refl _ _⟩
  case round =>
    obtain ⟨i, A2, c2, hi, rfl, rfl, hown, hbw⟩ := hrel
    rcases Nat.lt_or_ge i n with hlt | hge
    · obtain ⟨g, off, rfl, hgB, hc0, hc1⟩ := (HV.out.below (hbw.mono hB)).at_ (i := i) hlt
      have hb2 : Below w.heap.size w (wr.alloc (.cells #[.slice (es.getD i noKV).A (es.getD i noKV).n (es.getD i noKV).c, .int .i64 (es.getD i noKV).v] 155)) := hbw.alloc hbw.size _
      have HX := Lib.hid (HF.out _ hb2 i hlt)
      have HBW := Lib.hid hb2
      have HOW := Lib.hid hown
      have i0 : (0 : Int) ≤ (i : Int) := by omega
      have i1 : (i : Int) < (n : Int) := by omega
      have hil : i < es.length := by rw [HLEN.out]; exact hlt
      have hpl := preD_len es p i
      have hsz := hbw.size
      rcases Nat.lt_trichotomy i p with hip | hip | hip
      · have ho := HO.out.1 i hip
        have hpre := preD_lo hip hil
        have HPRE := Lib.hid hpre
        have hq0 : (orderV ks (es.getD i noKV).zs == 0) = false := by simpa using ho
        clear hpre hb2 hbw hown ho
        generalize es.getD i noKV = y at *
        obtain ⟨xA, xn, xc, xz, xv⟩ := y
        simp only at hc0 hc1 HX HBW hq0
        generalize orderV ks xz = o at *
        have HX2 : Hid (Calls Try.prog 92 #[.slice A' m d, .slice xA xn xc] (wr.alloc (.cells #[.slice xA xn xc, .int .i64 xv] 155)) fun e w' => e = .returned (.int .i64 o) ∧ OwnC w' w.heap.size E14 2 A2 (preD es p i).length c2 (KVs (preD es p i)) ∧ Below w.heap.size w w' ∧ BlkL w' wr.heap.size [.slice xA xn xc, .int .i64 xv]) := Lib.hid (HX.out.mono fun e w' ⟨he, t, ht⟩ => ⟨he, by rw [ht]; exact (HOW.out.below ((Below.refl _ wr).alloc (Nat.le_refl _) _)).drewN t, by rw [ht]; exact below_drews HBW.out t, by rw [ht]; exact (BlkL.new wr _ _).drewN t⟩)
        clear HX HOW
        have hne : (o != 0) = true := by simpa using hq0
        go_wp2_with fail
        with_reducible refine (HX2.out).mono ?_
        rintro e w1 ⟨rfl, ho1, hb1, hk1⟩
        have hz1 := hb1.size
        have k0 := hk1.cell 0 _ rfl
        have k1 := hk1.cell 1 _ rfl
        have kl := hk1.lt
        have ho2 := ho1.below ((Below.refl _ w1).alloc (Nat.le_refl _) (.cells #[.slice xA xn xc, .int .i64 xv] 155))
        have HB2 := Lib.hid (hb1.alloc hz1 (.cells #[.slice xA xn xc, .int .i64 xv] 155))
        have HO2 := Lib.hid ho2
        have HK2 := Lib.hid (BlkL.new w1 [.slice xA xn xc, .int .i64 xv] 155)
        have hz2 : w.heap.size ≤ (w1.alloc (.cells #[.slice xA xn xc, .int .i64 xv] 155)).heap.size := by rw [World.size_alloc]; omega
        clear ho1 hb1 hk1 ho2
        generalize hpd : preD es p i = pd at *
        have HPD := Lib.hid hpd
        clear hpd
        go_wp2_with (refine wpList_append_e14 rfl (.tmp 19) (.tmp 21) rfl w.heap.size A2 pd.length c2 pd rfl HO2.out w1.heap.size 1 ⟨xA, xn, xc, xz, xv⟩ rfl HK2.out (by omega) hz2 ?_)
        intro A3 c3 w3 ho3 hb3
        have HOB := Lib.hid (And.intro ho3 (HB2.out.trans hb3))
        clear ho3 hb3
        have hlen3 : (preD es p (i + 1)).length = pd.length + 1 := by rw [HPRE.out]; simp
        have HL3 := Lib.hid hlen3
        clear hlen3
        go_wp2
        go_roundw
        case rel => exact ⟨i + 1, A3, c3, by omega, by go_num, by rw [HL3.out], by rw [HPRE.out, List.length_append]; exact HOB.out.1, HOB.out.2⟩
        case measure => simp [intOf]; omega
      · subst hip
        have ho := HO.out.2.1
        have hpre := preD_at hil
        have HPRE := Lib.hid hpre
        clear hpre hb2 hbw hown
        generalize es.getD i noKV = y at *
        obtain ⟨xA, xn, xc, xz, xv⟩ := y
        simp only at hc0 hc1 HX HBW ho
        rw [ho] at HX
        clear ho
        have HX2 : Hid (Calls Try.prog 92 #[.slice A' m d, .slice xA xn xc] (wr.alloc (.cells #[.slice xA xn xc, .int .i64 xv] 155)) fun e w' => e = .returned (.int .i64 0) ∧ OwnC w' w.heap.size E14 2 A2 (preD es i i).length c2 (KVs (preD es i i)) ∧ Below w.heap.size w w') := Lib.hid (HX.out.mono fun e w' ⟨he, t, ht⟩ => ⟨he, by rw [ht]; exact (HOW.out.below ((Below.refl _ wr).alloc (Nat.le_refl _) _)).drewN t, by rw [ht]; exact below_drews HBW.out t⟩)
        clear HX HOW
        go_wp2_with fail
        with_reducible refine (HX2.out).mono ?_
        rintro e w1 ⟨rfl, ho1, hb1⟩
        have HOB := Lib.hid (And.intro ho1 hb1)
        clear ho1 hb1
        go_wp2
        go_roundw
        case rel => exact ⟨i + 1, A2, c2, by omega, by go_num, by rw [HPRE.out], by rw [HPRE.out]; exact HOB.out.1, HOB.out.2⟩
        case measure => simp [intOf]; omega
      · have ho := HO.out.2.2 i hip hlt
        have hpre := preD_hi hip hil
        have HPRE := Lib.hid hpre
        have hq0 : (orderV ks (es.getD i noKV).zs == 0) = false := by simpa using ho
        clear hpre hb2 hbw hown ho
        generalize es.getD i noKV = y at *
        obtain ⟨xA, xn, xc, xz, xv⟩ := y
        simp only at hc0 hc1 HX HBW hq0
        generalize orderV ks xz = o at *
        have HX2 : Hid (Calls Try.prog 92 #[.slice A' m d, .slice xA xn xc] (wr.alloc (.cells #[.slice xA xn xc, .int .i64 xv] 155)) fun e w' => e = .returned (.int .i64 o) ∧ OwnC w' w.heap.size E14 2 A2 (preD es p i).length c2 (KVs (preD es p i)) ∧ Below w.heap.size w w' ∧ BlkL w' wr.heap.size [.slice xA xn xc, .int .i64 xv]) := Lib.hid (HX.out.mono fun e w' ⟨he, t, ht⟩ => ⟨he, by rw [ht]; exact (HOW.out.below ((Below.refl _ wr).alloc (Nat.le_refl _) _)).drewN t, by rw [ht]; exact below_drews HBW.out t, by rw [ht]; exact (BlkL.new wr _ _).drewN t⟩)
        clear HX HOW
        have hne : (o != 0) = true := by simpa using hq0
        go_wp2_with fail
        with_reducible refine (HX2.out).mono ?_
        rintro e w1 ⟨rfl, ho1, hb1, hk1⟩
        have hz1 := hb1.size
        have k0 := hk1.cell 0 _ rfl
        have k1 := hk1.cell 1 _ rfl
        have kl := hk1.lt
        have ho2 := ho1.below ((Below.refl _ w1).alloc (Nat.le_refl _) (.cells #[.slice xA xn xc, .int .i64 xv] 155))
        have HB2 := Lib.hid (hb1.alloc hz1 (.cells #[.slice xA xn xc, .int .i64 xv] 155))
        have HO2 := Lib.hid ho2
        have HK2 := Lib.hid (BlkL.new w1 [.slice xA xn xc, .int .i64 xv] 155)
        have hz2 : w.heap.size ≤ (w1.alloc (.cells #[.slice xA xn xc, .int .i64 xv] 155)).heap.size := by rw [World.size_alloc]; omega
        clear ho1 hb1 hk1 ho2
        generalize hpd : preD es p i = pd at *
        have HPD := Lib.hid hpd
        clear hpd
        go_wp2_with (refine wpList_append_e14 rfl (.tmp 19) (.tmp 21) rfl w.heap.size A2 pd.length c2 pd rfl HO2.out w1.heap.size 1 ⟨xA, xn, xc, xz, xv⟩ rfl HK2.out (by omega) hz2 ?_)
        intro A3 c3 w3 ho3 hb3
        have HOB := Lib.hid (And.intro ho3 (HB2.out.trans hb3))
        clear ho3 hb3
        have hlen3 : (preD es p (i + 1)).length = pd.length + 1 := by rw [HPRE.out]; simp
        have HL3 := Lib.hid hlen3
        clear hlen3
        go_wp2
        go_roundw
        case rel => exact ⟨i + 1, A3, c3, by omega, by go_num, by rw [HL3.out], by rw [HPRE.out, List.length_append]; exact HOB.out.1, HOB.out.2⟩
        case measure => simp [intOf]; omega
    · obtain rfl : i = n := by omega
      have i1 : ¬ (i : Int) < (i : Int) := by omega
      have HOB := Lib.hid (And.intro hown hbw)
      clear hown hbw
      go_wp2
      go_ret
      exact ⟨A2, _, c2, rfl, by rw [← HEND.out, HLEN.out]; exact HOB.out.1, HOB.out.2⟩
end Go.Proofs.Ytpjgpiiibgogeaa
