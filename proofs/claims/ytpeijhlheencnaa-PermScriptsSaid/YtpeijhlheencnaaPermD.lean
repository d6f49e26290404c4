/- Contracts of the document's perm: Has, Drop, Put. -/
import Derived.Test.YtpeijhlheencnaaPermB
namespace Go.Proofs.Ytpeijhlheencnaa
open Go.RowKit
set_option maxRecDepth 100000

theorem take_one {xs : List Int} {k : Nat} (hk : k < xs.length) : xs.take (k + 1) = xs.take k ++ [xs.getD k 0] := by
  rw [List.take_succ_eq_append_getElem hk]
  simp [List.getD_eq_getElem?_getD, hk]
theorem has_append (a : List Int) (x t : Int) : hasV (a ++ [x]) t = (hasV a t || x == t) := by simp [hasV, List.any_append]
theorem has_at {xs : List Int} {k : Nat} (hk : k < xs.length) {t : Int} (h : xs.getD k 0 = t) : hasV xs t = true := by
  unfold hasV
  refine List.any_eq_true.2 ⟨xs.getD k 0, ?_, by rw [h]; exact beq_self_eq_true t⟩
  simp [List.getD_eq_getElem?_getD, hk]

set_option maxHeartbeats 800000 in
theorem refHas_any (w : World) (B : Nat) (A : Option Addr) (n c : Nat) (xs : List Int) (t : Int) (h : ArgI w B A n c xs) :
    Calls Try.prog 17 #[.slice A n c, .int .i64 t] w fun e w' => e = .returned (.bool (hasV xs t)) ∧ w = w' := by
  have hle := h.le
  have hcap := h.cap
  unfold maxLen at hcap
  have HL := Lib.hid h.len
  have HA := Lib.hid h
  have HR : ∃ r, hasV xs t = r := ⟨_, rfl⟩
  obtain ⟨r, hr⟩ := HR
  rw [hr]
  have HR := Lib.hid hr
  clear h hr
  go_enter Try.func17, Try.ntmps17
  go_wp2
  go_loop [9] (fun iv => ∃ k : Nat, k ≤ n ∧ iv = .int .i64 (k : Int) ∧ hasV (xs.take k) t = false) (fun iv => n - (intOf iv).toNat)
  case atStart => exact ⟨0, Nat.zero_le _, rfl, rfl⟩
  case round =>
    obtain ⟨k, hk, rfl, hf⟩ := hrel
    rcases Nat.lt_or_ge k n with hlt | hge
    · obtain ⟨g, off, rfl, _, hc⟩ := HA.out.at_ (by omega)
      have hck := hc k hlt
      have hs : hasV (xs.take (k + 1)) t = (false || xs.getD k 0 == t) := by rw [take_one (by rw [HL.out]; exact hlt), has_append, hf]
      have HY := Lib.hid (fun e => has_at (xs := xs) (k := k) (t := t) (by rw [HL.out]; exact hlt) e)
      have HF := Lib.hid hf
      clear hc hf
      generalize xs.getD k 0 = d at *
      have HS := Lib.hid hs
      clear hs
      by_cases e : d = t
      · subst e
        have hrr : true = r := by rw [← HR.out]; exact (HY.out rfl).symm
        have q : (d == d) = true := beq_self_eq_true d
        have HRR := Lib.hid hrr
        clear hrr
        go_wp2
        go_ret
        exact ⟨ret_bool HRR.out, rfl⟩
      · have q : (d == t) = false := beq_eq_false_iff_ne.2 e
        have HS2 := Lib.hid (show hasV (xs.take (k + 1)) t = false by rw [HS.out, q]; rfl)
        clear e
        go_wp2
        go_round
        case rel => exact ⟨k + 1, by omega, by go_num, HS2.out⟩
        case measure => simp [intOf]; omega
    · have hrr : false = r := by rw [← HR.out]; rw [List.take_of_length_le (by rw [HL.out]; omega)] at hf; exact hf.symm
      have HRR := Lib.hid hrr
      clear hrr hf
      go_wp2
      go_ret
      exact ⟨ret_bool HRR.out, rfl⟩
theorem drop_append (a : List Int) (x t : Int) : dropV (a ++ [x]) t = dropV a t ++ (if x = t then [] else [x]) := by
  unfold dropV
  rw [List.filter_append]
  congr 1
  by_cases h : x = t <;> simp [h]
theorem drop_len (a : List Int) (t : Int) : (dropV a t).length ≤ a.length := List.length_filter_le _ _

set_option maxHeartbeats 1600000 in
theorem refDrop_any (w : World) (B : Nat) (A : Option Addr) (n c : Nat) (xs : List Int) (t : Int) (h : ArgI w B A n c xs) (hB : B ≤ w.heap.size) (hn : n ≤ 17592186044000) :
    Calls Try.prog 20 #[.slice A n c, .int .i64 t] w fun e w' => ∃ A' c', e = .returned (.slice A' (dropV xs t).length c') ∧ OwnI w' w.heap.size A' (dropV xs t).length c' (dropV xs t) ∧ Below w.heap.size w w' := by
  have hle := h.le
  have hcap := h.cap
  unfold maxLen at hcap
  have HL := Lib.hid h.len
  have HA := Lib.hid h
  clear h
  go_enter Try.func20, Try.ntmps20
  go_wp2
  go_loopw [5, 10] (fun lv iv wr => ∃ (k m : Nat) (A' : Option Addr) (c' : Nat), k ≤ n ∧ iv = .int .i64 (k : Int) ∧ m = (dropV (xs.take k) t).length ∧ lv = .slice A' m c' ∧ OwnI wr w.heap.size A' m c' (dropV (xs.take k) t) ∧ Below w.heap.size w wr) (fun _ iv _ => n - (intOf iv).toNat)
  case atStart => exact ⟨0, 0, none, 0, Nat.zero_le _, rfl, rfl, rfl, OwnI.nil _ _, Below.refl _ _⟩
  case round =>
    obtain ⟨k, m, A', c', hk, rfl, hm, rfl, ho, hb⟩ := hrel
    have HO := Lib.hid ho
    have HBw := Lib.hid hb
    have hz := hb.size
    rcases Nat.lt_or_ge k n with hlt | hge
    · obtain ⟨g, off, rfl, _, hc⟩ := (HA.out.below (hb.mono hB)).at_ (by omega)
      have hck := hc k hlt
      have hs := drop_append (xs.take k) (xs.getD k 0) t
      rw [← take_one (by rw [HL.out]; exact hlt)] at hs
      have hml : m ≤ k := by rw [hm]; exact Nat.le_trans (drop_len _ _) (by simp; omega)
      clear hc ho hb
      generalize xs.getD k 0 = d at *
      generalize dropV (xs.take k) t = ys at *
      have HM := Lib.hid hm
      have HS := Lib.hid hs
      clear hm hs
      by_cases e : d = t
      · subst e
        have q : (d != d) = false := by simp
        have HZ := Lib.hid (HS.out.trans (by rw [if_pos rfl, List.append_nil]))
        go_wp2
        go_roundw
        case rel => exact ⟨k + 1, m, A', c', by omega, by go_num, by rw [HZ.out]; exact HM.out, rfl, by rw [HZ.out]; exact HO.out, HBw.out⟩
        case measure => simp [intOf]; omega
      · have q : (d != t) = true := bne_iff_ne.2 e
        have HZ := Lib.hid (HS.out.trans (by rw [if_neg e]))
        clear e
        go_wp2_with (refine wpList_append_ints rfl (.tmp 17) (.tmp 19) rfl w.heap.size A' m c' ys rfl (HO.out.below ((Below.refl _ _).alloc (Nat.le_refl _) _)) _ _ 1 1 [d] rfl (lit1 _ _ d rfl) (by omega) (by simp; omega) ?_)
        intro A2 c2 w2 ho hb
        have HO2 := Lib.hid ho
        have HB2 := Lib.hid ((HBw.out.alloc hz _).trans hb)
        clear ho hb
        go_wp2
        go_roundw
        case rel => exact ⟨k + 1, m + 1, A2, c2, by omega, by go_num, by rw [HZ.out, HM.out]; simp, rfl, by rw [HZ.out]; exact HO2.out, HB2.out⟩
        case measure => simp [intOf]; omega
    · have he : dropV (xs.take k) t = dropV xs t := by rw [List.take_of_length_le (by rw [HL.out]; omega)]
      rw [he] at hm HO
      have HM := Lib.hid hm
      clear hm ho hb he
      go_wp2
      go_ret
      exact ⟨A', c', by rw [HM.out]; rfl, by have := HO.out; rw [HM.out] at this; exact this, HBw.out⟩

/-- Put on its way: what is laid of the first k, with t behind them or in its place. -/
def PutSt (a : List Int) (t : Int) (pb : Bool) (ys : List Int) : Prop :=
  (pb = false ∧ (∀ x ∈ a, ¬ t < x) ∧ ys = a) ∨ (pb = true ∧ (∃ x ∈ a, t < x) ∧ ys = putV a t)
theorem put_all : ∀ (a : List Int) (t : Int), (∀ x ∈ a, ¬ t < x) → ∀ b, putV (a ++ b) t = a ++ putV b t
  | [], _, _, _ => rfl
  | x :: a, t, h, b => by
    rw [List.cons_append, putV, if_neg (h x (by simp)), put_all a t (fun y hy => h y (by simp [hy])), List.cons_append]
theorem put_some : ∀ (a : List Int) (t : Int), (∃ x ∈ a, t < x) → ∀ b, putV (a ++ b) t = putV a t ++ b
  | [], _, ⟨x, hx, _⟩, _ => by cases hx
  | y :: a, t, ⟨x, hx, hlt⟩, b => by
    rw [List.cons_append, putV, putV]
    by_cases h : t < y
    · rw [if_pos h, if_pos h]; rfl
    · rw [if_neg h, if_neg h, put_some a t ?_ b]; rfl
      rcases List.mem_cons.1 hx with rfl | hx
      · exact absurd hlt h
      · exact ⟨x, hx, hlt⟩
theorem putSt_1 {a ys : List Int} {t x : Int} (h : PutSt a t false ys) (hx : ¬ t < x) : PutSt (a ++ [x]) t false (ys ++ [x]) := by
  rcases h with ⟨_, h, rfl⟩ | ⟨h, _⟩
  · refine .inl ⟨rfl, fun y hy => ?_, rfl⟩
    rcases List.mem_append.1 hy with hy | hy
    · exact h y hy
    · rw [List.mem_singleton.1 hy]; exact hx
  · cases h
theorem putSt_2 {a ys : List Int} {t x : Int} (h : PutSt a t false ys) (hx : t < x) : PutSt (a ++ [x]) t true (ys ++ [t] ++ [x]) := by
  rcases h with ⟨_, h, rfl⟩ | ⟨h, _⟩
  · refine .inr ⟨rfl, ⟨x, by simp, hx⟩, ?_⟩
    rw [put_all ys t h [x], putV, if_pos hx]; simp
  · cases h
theorem putSt_3 {a ys : List Int} {t x : Int} (h : PutSt a t true ys) : PutSt (a ++ [x]) t true (ys ++ [x]) := by
  rcases h with ⟨h, _⟩ | ⟨_, ⟨y, hy, hlt⟩, rfl⟩
  · cases h
  · exact .inr ⟨rfl, ⟨y, List.mem_append_left _ hy, hlt⟩, (put_some a t ⟨y, hy, hlt⟩ [x]).symm⟩
theorem putSt_f {a ys : List Int} {t : Int} (h : PutSt a t false ys) : ys ++ [t] = putV a t := by
  rcases h with ⟨_, h, rfl⟩ | ⟨h, _⟩
  · have := put_all ys t h []
    rw [List.append_nil] at this
    rw [this]; rfl
  · cases h
theorem putSt_t {a ys : List Int} {t : Int} (h : PutSt a t true ys) : ys = putV a t := by
  rcases h with ⟨h, _⟩ | ⟨_, _, h⟩
  · cases h
  · exact h

set_option maxHeartbeats 3200000 in
theorem refPut_any (w : World) (B : Nat) (A : Option Addr) (n c : Nat) (xs : List Int) (t : Int) (h : ArgI w B A n c xs) (hB : B ≤ w.heap.size) (hn : n ≤ 17592186044000) :
    Calls Try.prog 22 #[.slice A n c, .int .i64 t] w fun e w' => ∃ A' c', e = .returned (.slice A' (n + 1) c') ∧ OwnI w' w.heap.size A' (n + 1) c' (putV xs t) ∧ Below w.heap.size w w' := by
  have hle := h.le
  have hcap := h.cap
  unfold maxLen at hcap
  have HL := Lib.hid h.len
  have HA := Lib.hid h
  clear h
  go_enter Try.func22, Try.ntmps22
  go_wp2
  go_loopw [5, 6, 11] (fun lv pv iv wr => ∃ (k m : Nat) (pb : Bool) (ys : List Int) (A' : Option Addr) (c' : Nat), k ≤ n ∧ iv = .int .i64 (k : Int) ∧ pv = .bool pb ∧ PutSt (xs.take k) t pb ys ∧ m = k + pb.toNat ∧ lv = .slice A' m c' ∧ OwnI wr w.heap.size A' m c' ys ∧ Below w.heap.size w wr) (fun _ _ iv _ => n - (intOf iv).toNat)
  case atStart => exact ⟨0, 0, false, [], none, 0, Nat.zero_le _, rfl, rfl, .inl ⟨rfl, by simp, rfl⟩, rfl, rfl, OwnI.nil _ _, Below.refl _ _⟩
  case round =>
    obtain ⟨k, m, pb, ys, A', c', hk, rfl, rfl, hp, hm, rfl, ho, hb⟩ := hrel
    have HO := Lib.hid ho
    have HBw := Lib.hid hb
    have hz := hb.size
    rcases Nat.lt_or_ge k n with hlt | hge
    · obtain ⟨g, off, rfl, _, hc⟩ := (HA.out.below (hb.mono hB)).at_ (by omega)
      have hck := hc k hlt
      have hs := take_one (xs := xs) (k := k) (by rw [HL.out]; exact hlt)
      have HS := Lib.hid hs
      have HP := Lib.hid hp
      clear hc ho hb hs hp
      generalize xs.getD k 0 = d at *
      rcases pb with _ | _
      · obtain rfl : m = k := by simpa using hm
        clear hm
        by_cases e : t < d
        · have q : decide (t < d) = true := decide_eq_true e
          have HQ := Lib.hid (putSt_2 HP.out e)
          clear e
          go_wp2_with (refine wpList_append_ints rfl (.tmp 22) (.tmp 24) rfl w.heap.size A' m c' ys rfl (HO.out.below ((Below.refl _ _).alloc (Nat.le_refl _) _)) _ _ 1 1 [t] rfl (lit1 _ _ t rfl) (by omega) (by simp; omega) ?_)
          intro A1 c1 w1 ho hb
          have HO1 := Lib.hid ho
          have HB1 := Lib.hid ((HBw.out.alloc hz _).trans hb)
          have hz1 := HB1.out.size
          clear ho hb
          go_wp2_with (refine wpList_append_ints rfl (.tmp 26) (.tmp 28) rfl w.heap.size A1 (m + 1) c1 (ys ++ [t]) rfl (HO1.out.below ((Below.refl _ _).alloc (Nat.le_refl _) _)) _ _ 1 1 [d] rfl (lit1 _ _ d rfl) (by omega) (by simp; omega) ?_)
          intro A2 c2 w2 ho hb
          have HO2 := Lib.hid ho
          have HB2 := Lib.hid ((HB1.out.alloc hz1 _).trans hb)
          clear ho hb
          go_wp2
          go_roundw
          case rel => exact ⟨m + 1, m + 2, true, _, A2, c2, by omega, by go_num, rfl, by rw [HS.out]; simpa using HQ.out, rfl, rfl, HO2.out, HB2.out⟩
          case measure => simp [intOf]; omega
        · have q : decide (t < d) = false := decide_eq_false e
          have HQ := Lib.hid (putSt_1 HP.out e)
          clear e
          go_wp2_with (refine wpList_append_ints rfl (.tmp 26) (.tmp 28) rfl w.heap.size A' m c' ys rfl (HO.out.below ((Below.refl _ _).alloc (Nat.le_refl _) _)) _ _ 1 1 [d] rfl (lit1 _ _ d rfl) (by omega) (by simp; omega) ?_)
          intro A2 c2 w2 ho hb
          have HO2 := Lib.hid ho
          have HB2 := Lib.hid ((HBw.out.alloc hz _).trans hb)
          clear ho hb
          go_wp2
          go_roundw
          case rel => exact ⟨m + 1, m + 1, false, _, A2, c2, by omega, by go_num, rfl, by rw [HS.out]; exact HQ.out, rfl, rfl, HO2.out, HB2.out⟩
          case measure => simp [intOf]; omega
      · obtain rfl : m = k + 1 := by simpa using hm
        clear hm
        have HQ := Lib.hid (putSt_3 (x := d) HP.out)
        have go : ∀ q0 : Bool, decide (t < d) = q0 → True := fun _ _ => trivial
        rcases hq : decide (t < d) with _ | _
        all_goals
          go_wp2_with (refine wpList_append_ints rfl (.tmp 26) (.tmp 28) rfl w.heap.size A' (k + 1) c' ys rfl (HO.out.below ((Below.refl _ _).alloc (Nat.le_refl _) _)) _ _ 1 1 [d] rfl (lit1 _ _ d rfl) (by omega) (by simp; omega) ?_)
          intro A2 c2 w2 ho hb
          have HO2 := Lib.hid ho
          have HB2 := Lib.hid ((HBw.out.alloc hz _).trans hb)
          clear ho hb
          go_wp2
          go_roundw
          case rel => exact ⟨k + 1, k + 2, true, _, A2, c2, by omega, by go_num, rfl, by rw [HS.out]; exact HQ.out, rfl, rfl, HO2.out, HB2.out⟩
          case measure => simp [intOf]; omega
    · obtain rfl : k = n := by omega
      rw [List.take_of_length_le (by rw [HL.out]; exact Nat.le_refl _)] at hp
      have HP := Lib.hid hp
      clear hp ho hb
      rcases pb with _ | _
      · obtain rfl : m = k := by simpa using hm
        clear hm
        have HQ := Lib.hid (putSt_f HP.out)
        go_wp2_with (refine wpList_append_ints rfl (.tmp 33) (.tmp 35) rfl w.heap.size A' m c' ys rfl (HO.out.below ((Below.refl _ _).alloc (Nat.le_refl _) _)) _ _ 1 1 [t] rfl (lit1 _ _ t rfl) (by omega) (by simp; omega) ?_)
        intro A2 c2 w2 ho hb
        have HO2 := Lib.hid ho
        have HB2 := Lib.hid ((HBw.out.alloc hz _).trans hb)
        clear ho hb
        go_wp2
        go_ret
        exact ⟨A2, c2, rfl, by rw [← HQ.out]; exact HO2.out, HB2.out⟩
      · obtain rfl : m = k + 1 := by simpa using hm
        clear hm
        have HQ := Lib.hid (putSt_t HP.out)
        go_wp2
        go_ret
        exact ⟨A', c', rfl, by rw [← HQ.out]; exact HO.out, HBw.out⟩
end Go.Proofs.Ytpeijhlheencnaa
