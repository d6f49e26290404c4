/- Contract: the law's all; own lists of floats. -/
import Derived.Test.YtffibfnagoagcaaOwV
import Derived.Test.YtffibfnagoagcaaMetW
import Derived.Test.YtffibfnagoagcaaMetL
namespace Go.Proofs.Ytffibfnagoagcaa
open Go.RowKit
set_option maxRecDepth 100000
set_option linter.unusedVariables false

/-- The slice value .slice A n c reads as the numbers xs, below block B. -/
structure ArgU (w : World) (B : Nat) (A : Option Addr) (n c : Nat) (xs : List Nat) : Prop where
  len : xs.length = n
  le : n ≤ c
  cap : c ≤ maxLen
  fit : ∀ x ∈ xs, x ≤ 18446744073709551615
  at_ : 0 < n → ∃ b off, A = some ⟨b, off, none⟩ ∧ b < B ∧ ∀ j, j < n → w.cell? ⟨b, off + j, none⟩ = some (.int .u64 ((xs.getD j 0 : Nat) : Int))
theorem ArgU.below {w w' : World} {B n c : Nat} {A : Option Addr} {xs : List Nat} (h : ArgU w B A n c xs) (hb : Below B w w') : ArgU w' B A n c xs :=
  ⟨h.len, h.le, h.cap, h.fit, fun hn => by
    obtain ⟨b, off, e, hB, hc⟩ := h.at_ hn
    exact ⟨b, off, e, hB, fun j hj => (hb.cell (p := ⟨b, off + j, none⟩) hB).trans (hc j hj)⟩⟩
theorem ArgU.to_ {w : World} {B n c m : Nat} {A : Option Addr} {xs : List Nat} (h : ArgU w B A n c xs) (hm : m ≤ n) : ArgU w B A m c (xs.take m) := by
  refine ⟨by rw [List.length_take, h.len]; omega, by have := h.le; omega, h.cap, fun x hx => h.fit x (List.mem_of_mem_take hx), fun h0 => ?_⟩
  obtain ⟨b, off, e, hB, hc⟩ := h.at_ (by omega)
  refine ⟨b, off, e, hB, fun j hj => ?_⟩
  rw [hc j (by omega)]
  simp [List.getD_eq_getElem?_getD, hj]
abbrev TF64 : TypeId := 27
theorem f64_info : (Try.prog.info? TF64).map (fun i => (i.zero, i.size, i.bytes)) = some (some (.float .f64 0), 1, 8) := by kernel_rfl
def Fl (xs : List Nat) : List Value := xs.map (Value.float .f64)
theorem Fl_len (xs : List Nat) : (Fl xs).length = xs.length := by simp [Fl]
theorem Fl_append (xs ys : List Nat) : Fl (xs ++ ys) = Fl xs ++ Fl ys := by simp [Fl]
theorem OwnV.argF {w : World} {B n c : Nat} {A : Option Addr} {xs : List Nat} (h : OwnV w B A n c (Fl xs)) (hf : ∀ x ∈ xs, x ≤ 18446744073709551615) : ArgF w w.heap.size A n c xs := by
  have hl := h.len
  rw [Fl_len] at hl
  refine ⟨hl, h.le, h.cap, hf, fun h0 => ?_⟩
  obtain ⟨b, off, e, _, hb, hc, _⟩ := h.cell h0
  refine ⟨b, off, e, hb, fun j hj => hc j _ ?_⟩
  simp [Fl, List.getD_eq_getElem?_getD, List.getElem?_eq_getElem (show j < xs.length by omega)]
/-- An append of one float. -/
theorem wpList_append_f {ops : Array Oper} {rest : List Oper} {o : Oper} {a : Act} {Q : Exit → Act → World → Prop} {w : World} {B n c : Nat} {A : Option Addr} {xs : List Nat} (hgd : o.guard = none) (s x : Operand)
    (ho : o.op = .call { callee := .builtin .append, args := #[s, x], argTypes := #[43, 43] })
    (hs : a.eval s = .slice A n c) (hown : OwnV w B A n c (Fl xs)) (p cm : Nat) (y : Nat) (hx : a.eval x = .slice (some ⟨p, 0, none⟩) 1 cm) (hp : BlkL w p [.float .f64 y]) (hn : n ≤ 17592186044000) (hB : B ≤ w.heap.size)
    (h : ∀ A' c' w', OwnV w' B A' (n + 1) c' (Fl (xs ++ [y])) → Off (bkV A) w w' → (∀ y ∈ bkV A', y ∈ bkV A ∨ y = w.heap.size ∧ y < w'.heap.size) → wpList Try.prog ops Q rest (a.put o.dst (.slice A' (n + 1) c')) w') : wpList Try.prog ops Q (o :: rest) a w := by
  obtain ⟨i0, hi, hz0, hz1, hz2⟩ := info_parts f64_info
  refine wpList_append_v Try.underlying43 hi hz0 hz1 hz2 rfl hgd s x ho hs hown p 1 cm [.float .f64 y] hx rfl hp (fun u hu => by simp only [List.mem_cons, List.not_mem_nil, or_false] at hu; subst hu; rfl) (by omega) (by omega) (by omega) hB ?_
  intro A' c' w' h1 h2 h3
  refine h A' c' w' ?_ h2 h3
  rw [Fl_append]; exact h1
def AllE (w : World) (n : Nat) (xs : List Nat) (e : Ending) (w' : World) : Prop := ∃ A' c', e = .returned (.slice A' n c') ∧ OwnV w' w.heap.size A' n c' (Fl xs) ∧ Below w.heap.size w w'
def AllR (w : World) (n : Nat) (xs : List Nat) (fv iv : Value) (wr : World) : Prop :=
  ∃ (k : Nat) (A' : Option Addr) (c' : Nat), k ≤ n ∧ iv = .int .i64 (k : Int) ∧ fv = .slice A' k c' ∧ OwnV wr w.heap.size A' k c' (Fl (xs.take k)) ∧ Below w.heap.size w wr
set_option maxHeartbeats 1600000 in
theorem all_any (w : World) (A : Option Addr) (n c : Nat) (xs : List Nat) (h : ArgU w w.heap.size A n c xs) (hn : n ≤ 17592186043904) :
    Calls Try.prog 22 #[.slice A n c] w (AllE w n xs) := by
  have HA := Lib.hid h
  have hlen := Lib.hid h.len
  clear h
  go_enter Try.func22, Try.ntmps22
  go_wp2
  go_loopw [3, 8] (fun fv iv wr => AllR w n xs fv iv wr) (fun _ iv _ => n - (intOf iv).toNat)
  case atStart => exact ⟨0, none, 0, Nat.zero_le _, rfl, rfl, OwnV.nil _ _, Below.refl _ _⟩
  case round =>
    obtain ⟨k, A', c', hk, rfl, rfl, ho, hb⟩ := hrel
    rcases Nat.lt_or_ge k n with h1 | h1
    · have hAk := HA.out.below hb
      obtain ⟨bb, off, rfl, hB, hcell⟩ := hAk.at_ (by omega)
      have q := hcell k h1
      have htk : xs.take (k + 1) = xs.take k ++ [xs.getD k 0] := by
        rw [List.take_succ_eq_append_getElem (by rw [hlen.out]; exact h1), List.getD_eq_getElem?_getD, List.getElem?_eq_getElem (by rw [hlen.out]; exact h1)]; rfl
      generalize xs.getD k 0 = x at q htk
      have HTK := Lib.hid htk
      have OW := Lib.hid (ho.below ((Below.refl _ _).alloc (Nat.le_refl _) (.cells #[.float .f64 x] TF64)))
      have KP := Lib.hid (BlkL.new wr [.float .f64 x] TF64)
      have HBr := Lib.hid (And.intro hb (And.intro (hb.alloc hb.size (.cells #[.float .f64 x] TF64)) ho.lt))
      have hsz := hb.size
      have ij : (k : Int) < (n : Int) := by omega
      clear hAk hcell htk ho hb
      go_wp2_with fail
      with_reducible refine (of8_any _ _).mono ?_
      rintro e w1 ⟨rfl, rfl⟩
      go_wp2_with (refine wpList_append_f rfl (.tmp 12) (.tmp 15) rfl rfl OW.out wr.heap.size 1 x rfl KP.out (by omega) (by simp; omega) ?_)
      intro A2 c2 w2 ho2 hf2 hx2
      have HE : Hid (AllR w n xs (.slice A2 (k + 1) c2) (.int .i64 ((k : Int) + 1)) w2) := Lib.hid ⟨k + 1, A2, c2, by omega, by go_num, rfl, by rw [HTK.out]; exact ho2, HBr.out.2.1.trans (hf2.below (by simp; omega) (fun y hy => (HBr.out.2.2 y hy).1))⟩
      clear ho2 hf2 hx2
      go_wp2
      go_roundw
      case rel => exact HE.out
      case measure => simp [intOf]; omega
    · obtain rfl : k = n := by omega
      have jn : ¬ (k : Int) < (k : Int) := by omega
      have HE : Hid (AllE w k xs (.returned (.slice A' k c')) wr) := Lib.hid ⟨A', c', rfl, by rw [List.take_of_length_le (by rw [hlen.out]; exact Nat.le_refl _)] at ho; exact ho, hb⟩
      clear ho hb
      go_wp2
      go_ret
      exact HE.out
end Go.Proofs.Ytffibfnagoagcaa
