/- Contract: Request. -/
import Derived.Test.YtndgladfcogiiaaWrH
namespace Go.Proofs.Ytndgladfcogiiaa
open Go.RowKit
set_option maxRecDepth 100000
set_option linter.unusedVariables false

def polB (p : Int) : Bool := decide (0 ≤ p) && decide (p < 32)
def serB (s : Int) : Bool := decide (1 ≤ s) && decide (s ≤ 4611686018427387903)
theorem polB_true {p : Int} (h : polB p = true) : 0 ≤ p ∧ p < 32 := by unfold polB at h; simpa using h
theorem polB_false {p : Int} (h : polB p = false) : p < 0 ∨ 32 ≤ p := by unfold polB at h; simp at h; omega
theorem serB_true {s : Int} (h : serB s = true) : 1 ≤ s ∧ s ≤ 4611686018427387903 := by unfold serB at h; simpa using h
/-- What is wrong with a call. -/
def rqC (o : Nat) (p s : Int) (n : Nat) : Int :=
  if o = 5 ∨ o = 6 then 0 else if o < 1 ∨ 4 < o then 1 else if polB p = false ∨ (o = 1 ∧ tkB s = false) ∨ (o = 3 ∧ serB s = false) then 1 else if 255 < n then 2 else 0
/-- The bytes of a right call. -/
def rqB (o : Nat) (p s : Int) (zs : List Nat) : List Nat :=
  if o = 1 then (o :: p.toNat :: zs.length :: zs) ++ Tk.wordV s.toNat 8 else if o = 3 then o :: tokV p.toNat zs s.toNat else if o = 2 ∨ o = 4 then o :: p.toNat :: zs.length :: zs else [o]
/-- How Request ends, of the program and of the document. -/
def ReqE (w : World) (o : Nat) (p s : Int) (zs : List Nat) (e : Ending) (w' : World) : Prop :=
  ∃ XA xn xc, e = .returned (.tuple #[.slice XA xn xc, .int .i64 (rqC o p s zs.length)]) ∧ Arg w' w'.heap.size XA xn xc (if rqC o p s zs.length = 0 then rqB o p s zs else []) ∧ Below w.heap.size w w'
theorem reqE_no {w w' : World} {o : Nat} {p s : Int} {zs : List Nat} {e : Ending} (f : Int) (hf : rqC o p s zs.length = f) (h0 : f ≠ 0) (h : ValEnd w (.tuple #[.slice none 0 0, .int .i64 f]) e w') : ReqE w o p s zs e w' := by
  refine ⟨none, 0, 0, by rw [hf]; exact h.1, ?_, h.2⟩
  rw [if_neg (by rw [hf]; exact h0)]
  exact Arg.nil _ _
theorem reqE_yes {w w' : World} {o : Nat} {p s : Int} {zs bs : List Nat} {m : Nat} {e : Ending} (hf : rqC o p s zs.length = 0) (hb : rqB o p s zs = bs) (h : NewB w bs m e w') : ReqE w o p s zs e w' := by
  obtain ⟨A, c, rfl, ho, hbl⟩ := h
  refine ⟨A, m, c, by rw [hf], ?_, hbl⟩
  rw [if_pos hf, hb]
  exact ho.arg
theorem reqE_up {w w1 w' : World} {o : Nat} {p s : Int} {zs : List Nat} {e : Ending} (hb : Below w.heap.size w w1) (h : ReqE w1 o p s zs e w') : ReqE w o p s zs e w' := by
  obtain ⟨XA, xn, xc, h1, h2, h3⟩ := h
  exact ⟨XA, xn, xc, h1, h2, hb.trans (h3.mono hb.size)⟩

section
variable (w : World) (B : Nat) (p s : Int) (A : Option Addr) (n c : Nat) (zs : List Nat) (h : Arg w B A n c zs) (hB : B ≤ w.heap.size)
include h hB
theorem keyed_any (o : Nat) (ho : o = 2 ∨ o = 4) : Calls Try.prog 93 #[ClA o p A n c s] w (ReqE w o p s zs) := by
  have hn := h.len
  cases hp : polB p with
  | false => exact (keyed_bad w o p s A n c (polB_false hp)).mono fun e w' he => reqE_no 1 (by unfold rqC; rw [if_neg (by omega), if_neg (by omega), if_pos (.inl hp)]) (by omega) he
  | true =>
    have hpp := polB_true hp
    obtain ⟨q, rfl⟩ : ∃ q : Nat, p = (q : Int) := ⟨p.toNat, by omega⟩
    have hx : ¬ (polB (q : Int) = false ∨ (o = 1 ∧ tkB s = false) ∨ (o = 3 ∧ serB s = false)) := by
      rw [hp]
      rintro (h | ⟨h, _⟩ | ⟨h, _⟩)
      · simp at h
      · omega
      · omega
    by_cases hl : 255 < n
    · exact (keyed_long w o q s A n c (by omega) (by omega) hl).mono fun e w' he => reqE_no 2 (by unfold rqC; rw [if_neg (by omega), if_neg (by omega), if_neg hx, if_pos (by omega)]) (by omega) he
    · exact (keyed_good w B o q s A n c zs h hB (by omega) (by omega) (by omega)).mono fun e w' he => reqE_yes (by unfold rqC; rw [if_neg (by omega), if_neg (by omega), if_neg hx, if_neg (by omega)]) (by unfold rqB; rw [if_neg (by omega), if_neg (by omega), if_pos ho, hn]; rfl) he
theorem allow_any : Calls Try.prog 92 #[ClA 1 p A n c s] w (ReqE w 1 p s zs) := by
  have hn := h.len
  have hb0 := clBl w 1 p A n c s
  cases hs : tkB s with
  | false => exact (allow_no w 1 p s A n c hs).mono fun e w' he => reqE_no 1 (by unfold rqC; rw [if_neg (by omega), if_neg (by omega), if_pos (.inr (.inl ⟨rfl, hs⟩))]) (by omega) he
  | true =>
  have hss := tkB_true hs
  cases hp : polB p with
  | false => exact (allow_err w 1 p s A n c 1 hs (.inl rfl) (keyed_bad _ 1 p s A n c (polB_false hp))).mono fun e w' he => reqE_no 1 (by unfold rqC; rw [if_neg (by omega), if_neg (by omega), if_pos (.inl hp)]) (by omega) he
  | true =>
    have hpp := polB_true hp
    obtain ⟨q, rfl⟩ : ∃ q : Nat, p = (q : Int) := ⟨p.toNat, by omega⟩
    obtain ⟨t, rfl⟩ : ∃ q : Nat, s = (q : Int) := ⟨s.toNat, by omega⟩
    have hx : ¬ (polB (q : Int) = false ∨ (1 = 1 ∧ tkB (t : Int) = false) ∨ (1 = 3 ∧ serB (t : Int) = false)) := by rw [hp, hs]; simp
    by_cases hl : 255 < n
    · exact (allow_err w 1 q t A n c 2 hs (.inr rfl) (keyed_long _ 1 q t A n c (by omega) (by omega) hl)).mono fun e w' he => reqE_no 2 (by unfold rqC; rw [if_neg (by omega), if_neg (by omega), if_neg hx, if_pos (by omega)]) (by omega) he
    · exact (allow_good w B 1 q t A n c zs h hB (by omega) (by omega) (by omega) (by omega)).mono fun e w' he => reqE_yes (by unfold rqC; rw [if_neg (by omega), if_neg (by omega), if_neg hx, if_neg (by omega)]) (by unfold rqB; rw [if_pos rfl, hn]; rfl) he
theorem release_any : Calls Try.prog 94 #[ClA 3 p A n c s] w (ReqE w 3 p s zs) := by
  have hn := h.len
  by_cases hb : polB p = false ∨ serB s = false
  · exact (release_err w 3 p s A n c 1 (.inl rfl) (encode_bad _ p s A n c (Lib.hid (by
      show (polB p && serB s) = false
      rcases hb with hb | hb <;> rw [hb] <;> simp)))).mono fun e w' he => reqE_no 1 (by unfold rqC; rw [if_neg (by omega), if_neg (by omega), if_pos (by rcases hb with hb | hb; exact .inl hb; exact .inr (.inr ⟨rfl, hb⟩))]) (by omega) he
  · have hp : polB p = true := by cases h1 : polB p <;> simp_all
    have hs : serB s = true := by cases h1 : serB s <;> simp_all
    have hpp := polB_true hp
    have hss := serB_true hs
    obtain ⟨q, rfl⟩ : ∃ q : Nat, p = (q : Int) := ⟨p.toNat, by omega⟩
    obtain ⟨t, rfl⟩ : ∃ q : Nat, s = (q : Int) := ⟨s.toNat, by omega⟩
    have hx : ¬ (polB (q : Int) = false ∨ (3 = 1 ∧ tkB (t : Int) = false) ∨ (3 = 3 ∧ serB (t : Int) = false)) := by rw [hp, hs]; simp
    by_cases hl : 255 < n
    · exact (release_err w 3 q t A n c 2 (.inr rfl) (encode_long _ q t A n c (Lib.hid hp) (Lib.hid hs) hl)).mono fun e w' he => reqE_no 2 (by unfold rqC; rw [if_neg (by omega), if_neg (by omega), if_neg hx, if_pos (by omega)]) (by omega) he
    · exact (release_good w B 3 q t A n c zs h hB (by omega) (by omega) (by omega) (by omega) (by omega)).mono fun e w' he => reqE_yes (by unfold rqC; rw [if_neg (by omega), if_neg (by omega), if_neg hx, if_neg (by omega)]) (by unfold rqB; rw [if_neg (by omega), if_pos rfl]; rfl) he
end

section
variable (w : World) (B : Nat) (p s : Int) (A : Option Addr) (n c : Nat) (zs : List Nat) (h : Arg w B A n c zs) (hB : B ≤ w.heap.size)
include h hB
theorem request_1 : Calls Try.prog 44 #[ClA 1 p A n c s] w (ReqE w 1 p s zs) := by
  have K := clK w 1 p A n c s
  have HB := Lib.hid (clBl w 1 p A n c s)
  have c0 := K.cell 0 _ rfl
  have c1 := K.cell 1 _ rfl
  have c2 := K.cell 2 _ rfl
  have c3 := K.cell 3 _ rfl
  have HC := Lib.hid (allow_any (clW w 1 p A n c s) B p s A n c zs (h.below ((clBl w 1 p A n c s).mono hB)) (by simp; omega))
  clear K h
  go_enter Try.func44, Try.ntmps44
  go_wp2_with fail
  with_reducible refine (HC.out).mono ?_
  rintro e w1 h1
  have H1 := Lib.hid (reqE_up HB.out h1)
  obtain ⟨XA, xn, xc, rfl, h2, h3⟩ := h1
  clear h2 h3
  go_wp2
  go_ret2
  exact H1.out
theorem request_2 : Calls Try.prog 44 #[ClA 2 p A n c s] w (ReqE w 2 p s zs) := by
  have K := clK w 2 p A n c s
  have HB := Lib.hid (clBl w 2 p A n c s)
  have c0 := K.cell 0 _ rfl
  have c1 := K.cell 1 _ rfl
  have c2 := K.cell 2 _ rfl
  have c3 := K.cell 3 _ rfl
  have HC : Hid (Calls Try.prog 93 #[ClA 2 p A n c s] (clW w 2 p A n c s) (ReqE (clW w 2 p A n c s) 2 p s zs)) := Lib.hid (keyed_any (clW w 2 p A n c s) B p s A n c zs (h.below ((clBl w 2 p A n c s).mono hB)) (by simp; omega) 2 (.inl rfl))
  clear K h
  go_enter Try.func44, Try.ntmps44
  go_wp2_with fail
  with_reducible refine (HC.out).mono ?_
  rintro e w1 h1
  have H1 := Lib.hid (reqE_up HB.out h1)
  obtain ⟨XA, xn, xc, rfl, h2, h3⟩ := h1
  clear h2 h3
  go_wp2
  go_ret2
  exact H1.out
theorem request_4 : Calls Try.prog 44 #[ClA 4 p A n c s] w (ReqE w 4 p s zs) := by
  have K := clK w 4 p A n c s
  have HB := Lib.hid (clBl w 4 p A n c s)
  have c0 := K.cell 0 _ rfl
  have c1 := K.cell 1 _ rfl
  have c2 := K.cell 2 _ rfl
  have c3 := K.cell 3 _ rfl
  have HC : Hid (Calls Try.prog 93 #[ClA 4 p A n c s] (clW w 4 p A n c s) (ReqE (clW w 4 p A n c s) 4 p s zs)) := Lib.hid (keyed_any (clW w 4 p A n c s) B p s A n c zs (h.below ((clBl w 4 p A n c s).mono hB)) (by simp; omega) 4 (.inr rfl))
  clear K h
  go_enter Try.func44, Try.ntmps44
  go_wp2_with fail
  with_reducible refine (HC.out).mono ?_
  rintro e w1 h1
  have H1 := Lib.hid (reqE_up HB.out h1)
  obtain ⟨XA, xn, xc, rfl, h2, h3⟩ := h1
  clear h2 h3
  go_wp2
  go_ret2
  exact H1.out
theorem request_3 : Calls Try.prog 44 #[ClA 3 p A n c s] w (ReqE w 3 p s zs) := by
  have K := clK w 3 p A n c s
  have HB := Lib.hid (clBl w 3 p A n c s)
  have c0 := K.cell 0 _ rfl
  have c1 := K.cell 1 _ rfl
  have c2 := K.cell 2 _ rfl
  have c3 := K.cell 3 _ rfl
  have HC := Lib.hid (release_any (clW w 3 p A n c s) B p s A n c zs (h.below ((clBl w 3 p A n c s).mono hB)) (by simp; omega))
  clear K h
  go_enter Try.func44, Try.ntmps44
  go_wp2_with fail
  with_reducible refine (HC.out).mono ?_
  rintro e w1 h1
  have H1 := Lib.hid (reqE_up HB.out h1)
  obtain ⟨XA, xn, xc, rfl, h2, h3⟩ := h1
  clear h2 h3
  go_wp2
  go_ret2
  exact H1.out
end
theorem one_byte (w : World) (o p : Int) (A : Option Addr) (n c : Nat) (s : Int) (k : Nat) (hk : k < 256) : NewB w [k] 1 (.returned (.tuple #[.slice (some ⟨w.heap.size + 1, 0, none⟩) 1 1, .int .i64 0])) ((clW w o p A n c s).alloc (.cells #[.int .u8 (k : Int)] 5)) := by
  refine ⟨some ⟨w.heap.size + 1, 0, none⟩, 1, rfl, ?_, (clBl w o p A n c s).alloc (by simp) _⟩
  have := OwnB.lit (clW w o p A n c s) [k] (by simp; omega) (n := 1) rfl (by unfold maxLen; omega)
  rw [show (clW w o p A n c s).heap.size = w.heap.size + 1 by simp] at this
  exact this.mono (by omega)
theorem request_5 (w : World) (p s : Int) (A : Option Addr) (n c : Nat) (zs : List Nat) : Calls Try.prog 44 #[ClA 5 p A n c s] w (ReqE w 5 p s zs) := by
  have K := clK w 5 p A n c s
  have c0 := K.cell 0 _ rfl
  clear K
  go_enter Try.func44, Try.ntmps44
  go_wp2
  go_ret2
  exact reqE_yes rfl rfl (one_byte w 5 p A n c s 5 (by omega))
theorem request_6 (w : World) (p s : Int) (A : Option Addr) (n c : Nat) (zs : List Nat) : Calls Try.prog 44 #[ClA 6 p A n c s] w (ReqE w 6 p s zs) := by
  have K := clK w 6 p A n c s
  have c0 := K.cell 0 _ rfl
  clear K
  go_enter Try.func44, Try.ntmps44
  go_wp2
  go_ret2
  exact reqE_yes rfl rfl (one_byte w 6 p A n c s 6 (by omega))
theorem request_no (w : World) (o : Nat) (p s : Int) (A : Option Addr) (n c : Nat) (zs : List Nat) (ho : o < 1 ∨ 6 < o) : Calls Try.prog 44 #[ClA o p A n c s] w (ReqE w o p s zs) := by
  have K := clK w o p A n c s
  have HB := Lib.hid (clBl w o p A n c s)
  have c0 := K.cell 0 _ rfl
  clear K
  have d1 : ((o : Int) == 1) = false := by simp; omega
  have d2 : ((o : Int) == 2) = false := by simp; omega
  have d3 : ((o : Int) == 3) = false := by simp; omega
  have d4 : ((o : Int) == 4) = false := by simp; omega
  have d5 : ((o : Int) == 5) = false := by simp; omega
  have d6 : ((o : Int) == 6) = false := by simp; omega
  go_enter Try.func44, Try.ntmps44
  go_wp2
  go_ret2
  exact reqE_no 1 (by unfold rqC; rw [if_neg (by omega), if_pos (by omega)]) (by omega) ⟨rfl, HB.out⟩
theorem request_any (w : World) (B o : Nat) (p s : Int) (A : Option Addr) (n c : Nat) (zs : List Nat) (h : Arg w B A n c zs) (hB : B ≤ w.heap.size) : Calls Try.prog 44 #[ClA o p A n c s] w (ReqE w o p s zs) := by
  by_cases ho : o < 1 ∨ 6 < o
  · exact request_no w o p s A n c zs ho
  · rcases (by omega : o = 1 ∨ o = 2 ∨ o = 3 ∨ o = 4 ∨ o = 5 ∨ o = 6) with rfl | rfl | rfl | rfl | rfl | rfl
    · exact request_1 w B p s A n c zs h hB
    · exact request_2 w B p s A n c zs h hB
    · exact request_3 w B p s A n c zs h hB
    · exact request_4 w B p s A n c zs h hB
    · exact request_5 w p s A n c zs
    · exact request_6 w p s A n c zs
end Go.Proofs.Ytndgladfcogiiaa
