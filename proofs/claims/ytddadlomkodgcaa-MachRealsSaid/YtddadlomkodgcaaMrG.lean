/- MachReals: one call of both machines. -/
import Derived.Test.YtddadlomkodgcaaMrF
namespace Go.Proofs.Ytddadlomkodgcaa
open Go.RowKit
set_option maxRecDepth 100000
set_option linter.unusedVariables false

structure MrS (w : World) (B b bw d dw n : Nat) (wr : World) (i : Nat) (ws : List Nat) (clk : Int) (ln : Nat) : Prop where
  r : RealS wr b bw n ws clk
  m : DmS wr B d dw n ws clk ln
  lni : ln ≤ i
  cl : 0 ≤ clk ∧ clk ≤ 4611686018427387903
  bel : Below w.heap.size w wr
  ge : w.heap.size ≤ b ∧ w.heap.size ≤ bw ∧ w.heap.size ≤ d ∧ w.heap.size ≤ dw ∧ w.heap.size ≤ B
  lt : b < B ∧ bw < B
  ap : b ∉ [d, dw]
  ap2 : bw ∉ [d, dw]
section
variable {w wr w2 w3 : World} {B b bw d dw n i ln : Nat} {ws ws' : List Nat} {clk clk' : Int}
theorem MrS.d_ (h : MrS w B b bw d dw n wr i ws clk ln) : d ∉ [b, bw] ∧ dw ∉ [b, bw] := by
  have h1 := h.ap
  have h2 := h.ap2
  simp only [List.mem_cons, List.not_mem_nil, or_false, not_or] at h1 h2
  exact ⟨by simp; exact ⟨Ne.symm h1.1, Ne.symm h2.1⟩, by simp; exact ⟨Ne.symm h1.2, Ne.symm h2.2⟩⟩
theorem MrS.alloc (h : MrS w B b bw d dw n wr i ws clk ln) (o : Obj) : MrS w B b bw d dw n (wr.alloc o) i ws clk ln :=
  ⟨h.r.off (S := []) ((Off.refl [] wr).alloc o) (by simp) (by simp), h.m.off (S := []) ((Off.refl [] wr).alloc o) (by simp) (by simp) (by simp), h.lni, h.cl, h.bel.alloc h.bel.size o, h.ge, h.lt, h.ap, h.ap2⟩
theorem MrS.next (h : MrS w B b bw d dw n wr i ws clk ln) : MrS w B b bw d dw n wr (i + 1) ws clk ln := ⟨h.r, h.m, Nat.le_succ_of_le h.lni, h.cl, h.bel, h.ge, h.lt, h.ap, h.ap2⟩
theorem MrS.doc (h : MrS w B b bw d dw n wr i ws clk ln) (ho : Off [b, bw] wr w2) : DmS w2 B d dw n ws clk ln :=
  h.m.off ho (by intro x hx; have := h.lt; simp at hx; omega) h.d_.1 h.d_.2
theorem MrS.step (h : MrS w B b bw d dw n wr i ws clk ln) (hr : RealS w2 b bw n ws' clk') (ho : Off [b, bw] wr w2) (hm : ∃ ln', ln' ≤ ln + 1 ∧ DmS w3 B d dw n ws' clk' ln') (hob : OffB B [d, dw] w2 w3) (hc : 0 ≤ clk' ∧ clk' ≤ 4611686018427387903) :
    ∃ ln', MrS w B b bw d dw n w3 (i + 1) ws' clk' ln' := by
  obtain ⟨ln', h1, h2⟩ := hm
  have hg := h.ge
  refine ⟨ln', ⟨hob.blk hr.blk h.lt.1 h.ap, hob.blk hr.wd h.lt.2 h.ap2, hr.len, hr.ne⟩, h2, by have := h.lni; omega, hc, ?_, h.ge, h.lt, h.ap, h.ap2⟩
  exact (ho.up2 h.bel (by intro x hx; simp at hx; omega)).trans (hob.below hg.2.2.2.2 (by intro x hx; simp at hx; omega))
end
theorem tickW_bd {t clk : Int} (hc : 0 ≤ clk ∧ clk ≤ 4611686018427387903) : 0 ≤ tickW t clk ∧ tickW t clk ≤ 4611686018427387903 := by
  unfold tickW
  split
  · have := clampV_bd (clk + t); omega
  · exact hc

set_option maxHeartbeats 1600000 in
theorem real_load (w : World) (B b bw d dw n : Nat) (wr : World) (i : Nat) (ws : List Nat) (clk : Int) (ln : Nat) (h : MrS w B b bw d dw n wr i ws clk ln) (hi : i ≤ 1000) (who word t : Int) (old new : Nat) :
    Calls Try.prog 13 #[.pointer (some ⟨b, 0, none⟩), .pointer (some ⟨d, 0, none⟩), .agg #[.int .u8 (0), .int .i64 who, .int .i64 word, .int .u64 (old : Int), .int .u64 (new : Int), .int .i64 t]] wr fun e w' => e = .returned (.bool true) ∧ ∃ ws' clk' ln', MrS w B b bw d dw n w' (i + 1) ws' clk' ln' := by
  have h1 := h.alloc (.cells #[.int .u8 (0), .int .i64 who, .int .i64 word, .int .u64 (old : Int), .int .u64 (new : Int), .int .i64 t] 33)
  have hlni := h.lni
  have H1 := Lib.hid h1
  have K1 := Lib.hid (BlkL.new wr [.int .u8 (0), .int .i64 who, .int .i64 word, .int .u64 (old : Int), .int .u64 (new : Int), .int .i64 t] 33)
  have HCL := Lib.hid h.cl
  have HR := Lib.hid ((rload_all (wr.alloc (.cells #[.int .u8 (0), .int .i64 who, .int .i64 word, .int .u64 (old : Int), .int .u64 (new : Int), .int .i64 t] 33)) b bw n ws clk h1.r who word).mono (R' := fun e w' => e = .returned (.tuple #[.int .u64 (loadX n ws who word), .int .i64 (wordE n who word)]) ∧ RealS w' b bw n ws clk ∧ Off [b, bw] (wr.alloc (.cells #[.int .u8 (0), .int .i64 who, .int .i64 word, .int .u64 (old : Int), .int .u64 (new : Int), .int .i64 t] 33)) w') fun e w' ⟨a1, a2⟩ => by subst a2; exact ⟨a1, h1.r, Off.refl _ _⟩)
  have HD := Lib.hid (fun w2 (hd : DmS w2 B d dw n ws clk ln) => docload_all w2 B d dw n ws clk ln hd (by omega) who word)
  have hz : wr.heap.size ∉ [b, bw] := by
    have e1 := h.r.blk.lt
    have e2 := h.r.wd.lt
    simp; omega
  have hbd := h.cl
  have hbd2 := tickW_bd (t := t) h.cl
  clear h h1
  generalize loadX n ws who word = x at *
  generalize wordE n who word = er at *
  go_enter Try.func13, Try.ntmps13
  go_wp2_with fail
  with_reducible refine HR.out.mono ?_
  rintro e w2 ⟨rfl, hr2, ho2⟩
  have hd2 := HD.out w2 (H1.out.doc ho2)
  have k2 := K1.out.off ho2 hz
  have p0 := k2.cell 0 _ rfl
  have p1 := k2.cell 1 _ rfl
  have p2 := k2.cell 2 _ rfl
  have p3 := k2.cell 3 _ rfl
  have p4 := k2.cell 4 _ rfl
  have p5 := k2.cell 5 _ rfl
  have pl := k2.lt
  have HD2 := Lib.hid hd2
  have HR2 := Lib.hid hr2
  have HO2 := Lib.hid ho2
  clear hd2 k2 hr2 ho2 HD HR
  go_wp2_with fail
  with_reducible refine HD2.out.mono ?_
  rintro e w3 ⟨rfl, hm3, hob3⟩
  have HF := Lib.hid (H1.out.step HR2.out HO2.out hm3 hob3 hbd)
  clear hm3 hob3 p0 p1 p2 p3 p4 p5 pl HD2
  go_wp2
  go_ret
  exact ⟨by first | rfl | simp, _, _, HF.out⟩

set_option maxHeartbeats 1600000 in
theorem real_swap (w : World) (B b bw d dw n : Nat) (wr : World) (i : Nat) (ws : List Nat) (clk : Int) (ln : Nat) (h : MrS w B b bw d dw n wr i ws clk ln) (hi : i ≤ 1000) (who word t : Int) (old new : Nat) :
    Calls Try.prog 13 #[.pointer (some ⟨b, 0, none⟩), .pointer (some ⟨d, 0, none⟩), .agg #[.int .u8 (1), .int .i64 who, .int .i64 word, .int .u64 (old : Int), .int .u64 (new : Int), .int .i64 t]] wr fun e w' => e = .returned (.bool true) ∧ ∃ ws' clk' ln', MrS w B b bw d dw n w' (i + 1) ws' clk' ln' := by
  have h1 := h.alloc (.cells #[.int .u8 (1), .int .i64 who, .int .i64 word, .int .u64 (old : Int), .int .u64 (new : Int), .int .i64 t] 33)
  have hlni := h.lni
  have H1 := Lib.hid h1
  have K1 := Lib.hid (BlkL.new wr [.int .u8 (1), .int .i64 who, .int .i64 word, .int .u64 (old : Int), .int .u64 (new : Int), .int .i64 t] 33)
  have HCL := Lib.hid h.cl
  have HR := Lib.hid (rswap_all (wr.alloc (.cells #[.int .u8 (1), .int .i64 who, .int .i64 word, .int .u64 (old : Int), .int .u64 (new : Int), .int .i64 t] 33)) b bw n ws clk h1.r who word old new)
  have HD := Lib.hid (fun w2 (hd : DmS w2 B d dw n ws clk ln) => docswap_all w2 B d dw n ws clk ln hd (by omega) who word old new)
  have hz : wr.heap.size ∉ [b, bw] := by
    have e1 := h.r.blk.lt
    have e2 := h.r.wd.lt
    simp; omega
  have hbd := h.cl
  have hbd2 := tickW_bd (t := t) h.cl
  clear h h1
  generalize swapX n ws who word old = x at *
  generalize wordE n who word = er at *
  generalize swapW n ws who word old new = ws2 at *
  have hxx : (x == x) = true := by cases x <;> rfl
  go_enter Try.func13, Try.ntmps13
  go_wp2_with fail
  with_reducible refine HR.out.mono ?_
  rintro e w2 ⟨rfl, hr2, ho2⟩
  have hd2 := HD.out w2 (H1.out.doc ho2)
  have k2 := K1.out.off ho2 hz
  have p0 := k2.cell 0 _ rfl
  have p1 := k2.cell 1 _ rfl
  have p2 := k2.cell 2 _ rfl
  have p3 := k2.cell 3 _ rfl
  have p4 := k2.cell 4 _ rfl
  have p5 := k2.cell 5 _ rfl
  have pl := k2.lt
  have HD2 := Lib.hid hd2
  have HR2 := Lib.hid hr2
  have HO2 := Lib.hid ho2
  clear hd2 k2 hr2 ho2 HD HR
  go_wp2_with fail
  with_reducible refine HD2.out.mono ?_
  rintro e w3 ⟨rfl, hm3, hob3⟩
  have HF := Lib.hid (H1.out.step HR2.out HO2.out hm3 hob3 hbd)
  clear hm3 hob3 p0 p1 p2 p3 p4 p5 pl HD2
  go_wp2
  go_ret
  exact ⟨by first | rfl | simp, _, _, HF.out⟩

set_option maxHeartbeats 1600000 in
theorem real_clock (w : World) (B b bw d dw n : Nat) (wr : World) (i : Nat) (ws : List Nat) (clk : Int) (ln : Nat) (h : MrS w B b bw d dw n wr i ws clk ln) (hi : i ≤ 1000) (who word t : Int) (old new : Nat) :
    Calls Try.prog 13 #[.pointer (some ⟨b, 0, none⟩), .pointer (some ⟨d, 0, none⟩), .agg #[.int .u8 (2), .int .i64 who, .int .i64 word, .int .u64 (old : Int), .int .u64 (new : Int), .int .i64 t]] wr fun e w' => e = .returned (.bool true) ∧ ∃ ws' clk' ln', MrS w B b bw d dw n w' (i + 1) ws' clk' ln' := by
  have h1 := h.alloc (.cells #[.int .u8 (2), .int .i64 who, .int .i64 word, .int .u64 (old : Int), .int .u64 (new : Int), .int .i64 t] 33)
  have hlni := h.lni
  have H1 := Lib.hid h1
  have K1 := Lib.hid (BlkL.new wr [.int .u8 (2), .int .i64 who, .int .i64 word, .int .u64 (old : Int), .int .u64 (new : Int), .int .i64 t] 33)
  have HCL := Lib.hid h.cl
  have HR := Lib.hid ((rclock_all (wr.alloc (.cells #[.int .u8 (2), .int .i64 who, .int .i64 word, .int .u64 (old : Int), .int .u64 (new : Int), .int .i64 t] 33)) b bw n ws clk h1.r who).mono (R' := fun e w' => e = .returned (.tuple #[.int .i64 (clockX who clk), .int .i64 (clockE who)]) ∧ RealS w' b bw n ws clk ∧ Off [b, bw] (wr.alloc (.cells #[.int .u8 (2), .int .i64 who, .int .i64 word, .int .u64 (old : Int), .int .u64 (new : Int), .int .i64 t] 33)) w') fun e w' ⟨a1, a2⟩ => by subst a2; exact ⟨a1, h1.r, Off.refl _ _⟩)
  have HD := Lib.hid (fun w2 (hd : DmS w2 B d dw n ws clk ln) => docclock_all w2 B d dw n ws clk ln hd (by omega) HCL.out who)
  have hz : wr.heap.size ∉ [b, bw] := by
    have e1 := h.r.blk.lt
    have e2 := h.r.wd.lt
    simp; omega
  have hbd := h.cl
  have hbd2 := tickW_bd (t := t) h.cl
  clear h h1
  generalize clockX who clk = x at *
  generalize clockE who = er at *
  go_enter Try.func13, Try.ntmps13
  go_wp2_with fail
  with_reducible refine HR.out.mono ?_
  rintro e w2 ⟨rfl, hr2, ho2⟩
  have hd2 := HD.out w2 (H1.out.doc ho2)
  have k2 := K1.out.off ho2 hz
  have p0 := k2.cell 0 _ rfl
  have p1 := k2.cell 1 _ rfl
  have p2 := k2.cell 2 _ rfl
  have p3 := k2.cell 3 _ rfl
  have p4 := k2.cell 4 _ rfl
  have p5 := k2.cell 5 _ rfl
  have pl := k2.lt
  have HD2 := Lib.hid hd2
  have HR2 := Lib.hid hr2
  have HO2 := Lib.hid ho2
  clear hd2 k2 hr2 ho2 HD HR
  go_wp2_with fail
  with_reducible refine HD2.out.mono ?_
  rintro e w3 ⟨rfl, hm3, hob3⟩
  have HF := Lib.hid (H1.out.step HR2.out HO2.out hm3 hob3 hbd)
  clear hm3 hob3 p0 p1 p2 p3 p4 p5 pl HD2
  go_wp2
  go_ret
  exact ⟨by first | rfl | simp, _, _, HF.out⟩

set_option maxHeartbeats 1600000 in
theorem real_tick (w : World) (B b bw d dw n : Nat) (wr : World) (i : Nat) (ws : List Nat) (clk : Int) (ln : Nat) (h : MrS w B b bw d dw n wr i ws clk ln) (hi : i ≤ 1000) (who word t : Int) (old new : Nat) :
    Calls Try.prog 13 #[.pointer (some ⟨b, 0, none⟩), .pointer (some ⟨d, 0, none⟩), .agg #[.int .u8 (3), .int .i64 who, .int .i64 word, .int .u64 (old : Int), .int .u64 (new : Int), .int .i64 t]] wr fun e w' => e = .returned (.bool true) ∧ ∃ ws' clk' ln', MrS w B b bw d dw n w' (i + 1) ws' clk' ln' := by
  have h1 := h.alloc (.cells #[.int .u8 (3), .int .i64 who, .int .i64 word, .int .u64 (old : Int), .int .u64 (new : Int), .int .i64 t] 33)
  have hlni := h.lni
  have H1 := Lib.hid h1
  have K1 := Lib.hid (BlkL.new wr [.int .u8 (3), .int .i64 who, .int .i64 word, .int .u64 (old : Int), .int .u64 (new : Int), .int .i64 t] 33)
  have HCL := Lib.hid h.cl
  have HR := Lib.hid (rtick_all (wr.alloc (.cells #[.int .u8 (3), .int .i64 who, .int .i64 word, .int .u64 (old : Int), .int .u64 (new : Int), .int .i64 t] 33)) b bw n ws clk h1.r h1.cl t)
  have HD := Lib.hid (fun w2 (hd : DmS w2 B d dw n ws clk ln) => doctick_all w2 B d dw n ws clk ln hd HCL.out t)
  have hz : wr.heap.size ∉ [b, bw] := by
    have e1 := h.r.blk.lt
    have e2 := h.r.wd.lt
    simp; omega
  have hbd := h.cl
  have hbd2 := tickW_bd (t := t) h.cl
  clear h h1
  generalize tickX t clk = x at *
  generalize tickE t = er at *
  generalize tickW t clk = c2 at *
  go_enter Try.func13, Try.ntmps13
  go_wp2_with fail
  with_reducible refine HR.out.mono ?_
  rintro e w2 ⟨rfl, hr2, ho2⟩
  have hd2 := HD.out w2 (H1.out.doc ho2)
  have k2 := K1.out.off ho2 hz
  have p0 := k2.cell 0 _ rfl
  have p1 := k2.cell 1 _ rfl
  have p2 := k2.cell 2 _ rfl
  have p3 := k2.cell 3 _ rfl
  have p4 := k2.cell 4 _ rfl
  have p5 := k2.cell 5 _ rfl
  have pl := k2.lt
  have HD2 := Lib.hid hd2
  have HR2 := Lib.hid hr2
  have HO2 := Lib.hid ho2
  clear hd2 k2 hr2 ho2 HD HR
  go_wp2_with fail
  with_reducible refine HD2.out.mono ?_
  rintro e w3 ⟨rfl, hm3, hob3⟩
  have HF := Lib.hid (H1.out.step HR2.out HO2.out hm3 hob3 hbd2)
  clear hm3 hob3 p0 p1 p2 p3 p4 p5 pl HD2
  go_wp2
  go_ret
  exact ⟨by first | rfl | simp, _, _, HF.out⟩
theorem real_none (w : World) (p q : Value) (kd who word t : Int) (old new : Nat) (h0 : ¬ kd = 0) (h1 : ¬ kd = 1) (h2 : ¬ kd = 2) (h3 : ¬ kd = 3) :
    Calls Try.prog 13 #[p, q, .agg #[.int .u8 (kd), .int .i64 who, .int .i64 word, .int .u64 (old : Int), .int .u64 (new : Int), .int .i64 t]] w fun e w' => e = .returned (.bool true) ∧ w' = w.alloc (.cells #[.int .u8 (kd), .int .i64 who, .int .i64 word, .int .u64 (old : Int), .int .u64 (new : Int), .int .i64 t] 33) := by
  go_enter Try.func13, Try.ntmps13
  go_wp2
  go_ret
  exact ⟨rfl, rfl⟩
theorem rclock_n (w : World) (who : Int) : Calls Try.prog 43 #[.pointer none, .int .i64 who] w fun e w' => e = .returned (.tuple #[.int .i64 0, .int .i64 (if inB who 64 then 7 else 1)]) ∧ w = w' := by
  rcases hb : inB who 64 with _ | _
  · exact rclock_bad w _ who hb
  · exact rclock_nil w who hb
theorem docclock_n (w : World) (who : Int) : Calls Try.prog 44 #[.pointer none, .int .i64 who] w fun e w' => e = .returned (.tuple #[.int .i64 0, .int .i64 (if inB who 64 then 7 else 1)]) ∧ w = w' := by
  rcases hb : inB who 64 with _ | _
  · exact docclock_bad w _ who hb
  · exact docclock_nil w who hb
theorem rtick_n (w : World) (t : Int) : Calls Try.prog 45 #[.pointer none, .int .i64 t] w fun e w' => e = .returned (.tuple #[.int .i64 0, .int .i64 (if isTick t then 7 else 1)]) ∧ w = w' := by
  rcases hb : isTick t with _ | _
  · exact rtick_bad w _ t hb
  · exact rtick_nil w t hb
theorem doctick_n (w : World) (t : Int) : Calls Try.prog 46 #[.pointer none, .int .i64 t] w fun e w' => e = .returned (.tuple #[.int .i64 0, .int .i64 (if isTick t then 7 else 1)]) ∧ w = w' := by
  rcases hb : isTick t with _ | _
  · exact doctick_bad w _ t hb
  · exact doctick_nil w t hb
theorem real_nil_load (w : World) (who word t : Int) (old new : Nat) :
    Calls Try.prog 13 #[.pointer none, .pointer none, .agg #[.int .u8 (0), .int .i64 who, .int .i64 word, .int .u64 (old : Int), .int .u64 (new : Int), .int .i64 t]] w fun e w' => e = .returned (.bool true) ∧ w' = w.alloc (.cells #[.int .u8 (0), .int .i64 who, .int .i64 word, .int .u64 (old : Int), .int .u64 (new : Int), .int .i64 t] 33) := by
  have HR := Lib.hid (fun w => rload_bad w (.pointer none) who word (.inr (risWord_nil w word)))
  have HD := Lib.hid (fun w => docload_bad w (.pointer none) who word (.inr (dword_nil w word)))
  skip
  go_enter Try.func13, Try.ntmps13
  go_wp2_with fail
  with_reducible refine (HR.out _).mono ?_
  rintro e w1 ⟨rfl, hw⟩
  subst hw
  go_wp2_with fail
  with_reducible refine (HD.out _).mono ?_
  rintro e w1 ⟨rfl, hw⟩
  subst hw
  go_wp2
  go_ret
  exact ⟨rfl, rfl⟩
theorem real_nil_swap (w : World) (who word t : Int) (old new : Nat) :
    Calls Try.prog 13 #[.pointer none, .pointer none, .agg #[.int .u8 (1), .int .i64 who, .int .i64 word, .int .u64 (old : Int), .int .u64 (new : Int), .int .i64 t]] w fun e w' => e = .returned (.bool true) ∧ w' = w.alloc (.cells #[.int .u8 (1), .int .i64 who, .int .i64 word, .int .u64 (old : Int), .int .u64 (new : Int), .int .i64 t] 33) := by
  have HR := Lib.hid (fun w => rswap_bad w (.pointer none) who word (old : Int) (new : Int) (.inr (risWord_nil w word)))
  have HD := Lib.hid (fun w => docswap_bad w (.pointer none) who word (old : Int) (new : Int) (.inr (dword_nil w word)))
  skip
  go_enter Try.func13, Try.ntmps13
  go_wp2_with fail
  with_reducible refine (HR.out _).mono ?_
  rintro e w1 ⟨rfl, hw⟩
  subst hw
  go_wp2_with fail
  with_reducible refine (HD.out _).mono ?_
  rintro e w1 ⟨rfl, hw⟩
  subst hw
  go_wp2
  go_ret
  exact ⟨rfl, rfl⟩
theorem real_nil_clock (w : World) (who word t : Int) (old new : Nat) :
    Calls Try.prog 13 #[.pointer none, .pointer none, .agg #[.int .u8 (2), .int .i64 who, .int .i64 word, .int .u64 (old : Int), .int .u64 (new : Int), .int .i64 t]] w fun e w' => e = .returned (.bool true) ∧ w' = w.alloc (.cells #[.int .u8 (2), .int .i64 who, .int .i64 word, .int .u64 (old : Int), .int .u64 (new : Int), .int .i64 t] 33) := by
  have HR := Lib.hid (fun w => rclock_n w who)
  have HD := Lib.hid (fun w => docclock_n w who)
  generalize (if inB who 64 then (7 : Int) else 1) = er at *
  go_enter Try.func13, Try.ntmps13
  go_wp2_with fail
  with_reducible refine (HR.out _).mono ?_
  rintro e w1 ⟨rfl, hw⟩
  subst hw
  go_wp2_with fail
  with_reducible refine (HD.out _).mono ?_
  rintro e w1 ⟨rfl, hw⟩
  subst hw
  go_wp2
  go_ret
  exact ⟨rfl, rfl⟩
theorem real_nil_tick (w : World) (who word t : Int) (old new : Nat) :
    Calls Try.prog 13 #[.pointer none, .pointer none, .agg #[.int .u8 (3), .int .i64 who, .int .i64 word, .int .u64 (old : Int), .int .u64 (new : Int), .int .i64 t]] w fun e w' => e = .returned (.bool true) ∧ w' = w.alloc (.cells #[.int .u8 (3), .int .i64 who, .int .i64 word, .int .u64 (old : Int), .int .u64 (new : Int), .int .i64 t] 33) := by
  have HR := Lib.hid (fun w => rtick_n w t)
  have HD := Lib.hid (fun w => doctick_n w t)
  generalize (if isTick t then (7 : Int) else 1) = er at *
  go_enter Try.func13, Try.ntmps13
  go_wp2_with fail
  with_reducible refine (HR.out _).mono ?_
  rintro e w1 ⟨rfl, hw⟩
  subst hw
  go_wp2_with fail
  with_reducible refine (HD.out _).mono ?_
  rintro e w1 ⟨rfl, hw⟩
  subst hw
  go_wp2
  go_ret
  exact ⟨rfl, rfl⟩
end Go.Proofs.Ytddadlomkodgcaa
