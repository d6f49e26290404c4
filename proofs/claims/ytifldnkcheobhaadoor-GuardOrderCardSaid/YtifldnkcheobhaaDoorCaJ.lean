/- Check of any program. -/
import Derived.Test.YtifldnkcheobhaaDoorCaI
namespace Go.Proofs.YtifldnkcheobhaaDoor
open Go.RowKit
set_option maxRecDepth 100000
set_option linter.unusedVariables false
set_option linter.unusedSimpArgs false
set_option maxHeartbeats 4000000

/-- A program of any form in memory. -/
def ProgQ (w : World) (B : Nat) (Pa : Value) (p : List (List ActV)) : Prop :=
  ∃ (A : Option Addr) (c : Nat), Pa = .slice A p.length c ∧ (A = none → p = []) ∧ ∀ a, A = some a → a = ⟨a.block, a.off, none⟩ ∧ a.block < B ∧ ∀ i f, p[i]? = some f → ∃ F, w.cell? ⟨a.block, a.off + i, none⟩ = some F ∧ ActP w B F f
theorem ProgQ.below {w w' : World} {B : Nat} {Pa : Value} {p : List (List ActV)} (h : ProgQ w B Pa p) (hb : Below B w w') : ProgQ w' B Pa p := by
  obtain ⟨A, c, h1, h2, h3⟩ := h
  refine ⟨A, c, h1, h2, fun a ha => ?_⟩
  obtain ⟨k1, k2, k3⟩ := h3 a ha
  refine ⟨k1, k2, fun i f hf => ?_⟩
  obtain ⟨F, q1, q2⟩ := k3 i f hf
  exact ⟨F, (hb.cell (p := ⟨a.block, a.off + i, none⟩) k2).trans q1, q2.below hb⟩
theorem ProgQ.prog {w : World} {B : Nat} {Pa : Value} {p : List (List ActV)} (h : ProgQ w B Pa p) (hp : 0 < p.length) : ProgP w B Pa p := by
  obtain ⟨A, c, h1, h2, h3⟩ := h
  cases A with
  | none => rw [h2 rfl] at hp; simp at hp
  | some a =>
    obtain ⟨k1, k2, k3⟩ := h3 a rfl
    rw [k1] at h1
    exact ⟨a.block, a.off, c, h1, k2, k3⟩
/-- Numbers that a machine holds. -/
def ProgR (p : List (List ActV)) : Prop := p.length ≤ 140737488355328 ∧ ∀ (i : Nat) (f : List ActV), p[i]? = some f → f.length ≤ 140737488355328 ∧ ∀ x : ActV, x ∈ f → x.1 < 256 ∧ -9223372036854775808 ≤ x.2 ∧ x.2 ≤ 9223372036854775807
def longB (p : List (List ActV)) : Bool := decide (32 < p.length) || p.any fun f => decide (64 < f.length)
theorem isAct_any (w : World) (k : Nat) (n : Int) (i m : Nat) (hk : k < 256) (hi : i < 9223372036854775807) (hm : m < 9223372036854775807) :
    Calls Tryd.prog 36 #[.agg #[.int .u8 (k : Int), .int .i64 n], .int .i64 (i : Int), .int .i64 (m : Int)] w fun e w' => e = .returned (.bool (decide (ActOk i m (k, n)))) ∧ Off [] w w' := by
  have ho : Off [] w (w.alloc (.cells #[.int .u8 (k : Int), .int .i64 n] 24)) := (Off.refl _ w).alloc _
  have HO := Lib.hid ho
  clear ho
  have e0 : (w.alloc (.cells #[.int .u8 (k : Int), .int .i64 n] 24)).cell? ⟨w.heap.size, 0, none⟩ = some (.int .u8 (k : Int)) := (BlkL.new w [.int .u8 (k : Int), .int .i64 n] _).cell 0 _ rfl
  have e1 : (w.alloc (.cells #[.int .u8 (k : Int), .int .i64 n] 24)).cell? ⟨w.heap.size, 1, none⟩ = some (.int .i64 n) := (BlkL.new w [.int .u8 (k : Int), .int .i64 n] _).cell 1 _ rfl
  by_cases h1 : k = 1 ∨ k = 4 ∨ k = 5
  · have hd : decide (ActOk i m (k, n)) = true := decide_eq_true ⟨hk, by rcases h1 with h | h | h <;> simp [h]⟩
    rw [hd]
    rcases h1 with rfl | rfl | rfl
    all_goals
      go_enter Tryd.func36, Tryd.ntmps36
      go_wp2
      go_ret
      exact ⟨rfl, HO.out⟩
  · have q1 : ¬ (k : Int) = 1 := by omega
    have q4 : ¬ (k : Int) = 4 := by omega
    have q5 : ¬ (k : Int) = 5 := by omega
    by_cases h2 : k = 2 ∨ k = 3
    · have hd : decide (ActOk i m (k, n)) = (decide ((i : Int) < n) && decide (n < (m : Int))) := by
        rw [Bool.eq_iff_iff]
        simp only [Bool.and_eq_true, decide_eq_true_eq]
        unfold ActOk
        simp only
        omega
      rw [hd]
      by_cases a1 : (i : Int) < n <;> by_cases a2 : n < (m : Int)
      all_goals
        simp only [a1, a2, decide_true, decide_false, Bool.and_true, Bool.and_false, Bool.false_and, Bool.true_and]
        rcases h2 with rfl | rfl
        all_goals
          go_enter Tryd.func36, Tryd.ntmps36
          go_wp2
          go_ret
          exact ⟨rfl, HO.out⟩
    · have q2 : ¬ (k : Int) = 2 := by omega
      have q3 : ¬ (k : Int) = 3 := by omega
      have hd : decide (ActOk i m (k, n)) = (decide ((11 : Int) ≤ (k : Int)) && decide ((k : Int) ≤ 24)) := by
        rw [Bool.eq_iff_iff]
        simp only [Bool.and_eq_true, decide_eq_true_eq]
        unfold ActOk
        simp only
        omega
      rw [hd]
      by_cases a1 : (11 : Int) ≤ (k : Int) <;> by_cases a2 : (k : Int) ≤ 24
      all_goals
        first
          | (exfalso; omega)
          | (simp only [a1, a2, decide_true, decide_false, Bool.and_true, Bool.and_false, Bool.false_and, Bool.true_and]
             go_enter Tryd.func36, Tryd.ntmps36
             go_wp2
             go_ret
             exact ⟨rfl, HO.out⟩)
theorem isLong_any (w : World) (B : Nat) (Pa : Value) (p : List (List ActV)) (h : ProgQ w B Pa p) (hr : ProgR p) :
    Calls Tryd.prog 35 #[Pa] w fun e w' => e = .returned (.bool (longB p)) ∧ w = w' := by
  obtain ⟨A, c, rfl, h2, h3⟩ := h
  obtain ⟨hr1, hr2⟩ := hr
  rcases Nat.lt_or_ge 32 p.length with hlt | hge
  · have hd : (32 : Int) < (p.length : Int) := by omega
    have hl : longB p = true := by simp [longB, hlt]
    rw [hl]
    clear h2 h3 hr2
    go_enter Tryd.func35, Tryd.ntmps35
    go_wp2
    go_ret
    exact ⟨rfl, rfl⟩
  · have hd : ¬ (32 : Int) < (p.length : Int) := by omega
    have H3 := Lib.hid h3
    have H2 := Lib.hid h2
    have HR := Lib.hid hr2
    clear h2 h3 hr2
    go_enter Tryd.func35, Tryd.ntmps35
    go_wp2
    go_loopw [10] (fun iv wr => ∃ i : Nat, i ≤ p.length ∧ iv = .int .i64 (i : Int) ∧ (p.take i).any (fun f => decide (64 < f.length)) = false ∧ w = wr) (fun iv _ => p.length - (intOf iv).toNat)
    case atStart => exact ⟨0, Nat.zero_le _, rfl, rfl, rfl⟩
    case round =>
      obtain ⟨i, hi, rfl, hfd, rfl⟩ := hrel
      have HFD := Lib.hid hfd
      clear hfd
      rcases Nat.lt_or_ge i p.length with h1 | h1
      · have hii : (i : Int) < (p.length : Int) := by omega
        have hi1 : IntKind.i64.wrap ((i : Int) + 1) = ((i + 1 : Nat) : Int) := by rw [IntWalk.i64_in _ (by omega)]; omega
        cases A with
        | none => rw [H2.out rfl] at h1; simp at h1
        | some a =>
          obtain ⟨ha, hab, hcl⟩ := H3.out a rfl
          obtain ⟨f, hf⟩ : ∃ f, p[i]? = some f := ⟨p[i], List.getElem?_eq_getElem h1⟩
          obtain ⟨F, hF1, FA, fc, rfl, -, -⟩ := hcl i f hf
          obtain ⟨fb, fo, rfl⟩ : ∃ fb fo, a = ⟨fb, fo, none⟩ := ⟨_, _, ha⟩
          simp only at hF1
          have hfl := (HR.out i f hf).1
          have htk : p.take (i + 1) = p.take i ++ [f] := by
            rw [List.take_succ_eq_append_getElem h1]
            rw [List.getElem?_eq_getElem h1] at hf
            injection hf with hf
            rw [hf]
          have HTK := Lib.hid htk
          have HFF := Lib.hid hf
          clear hcl ha htk hf
          rcases Nat.lt_or_ge 64 f.length with h64 | h64
          · have hd64 : (64 : Int) < (f.length : Int) := by omega
            have hl : longB p = true := by
              have : p.any (fun f => decide (64 < f.length)) = true := List.any_eq_true.2 ⟨f, List.mem_of_getElem? HFF.out, by simp [h64]⟩
              simp [longB, this]
            have HL := Lib.hid hl
            clear hl
            go_wp2
            go_ret
            exact ⟨by rw [HL.out] <;> rfl, rfl⟩
          · have hd64 : ¬ (64 : Int) < (f.length : Int) := by omega
            go_wp2
            go_roundw
            case rel => exact ⟨i + 1, by omega, rfl, by rw [HTK.out, List.any_append, HFD.out]; simp; omega, trivial⟩
            case measure => simp [intOf]; omega
      · obtain rfl : i = p.length := by omega
        have hii : ¬ (p.length : Int) < (p.length : Int) := by omega
        have hl : longB p = false := by
          have := HFD.out
          rw [List.take_length] at this
          simp [longB, this]; omega
        have HL := Lib.hid hl
        clear hl
        go_wp2
        go_ret
        exact ⟨by rw [HL.out] <;> rfl, rfl⟩
/-- What Check answers. -/
def ChkV (p : List (List ActV)) (r : Nat) : Prop :=
  (longB p = true ∧ r = 2) ∨ (longB p = false ∧ p = [] ∧ r = 3) ∨ (longB p = false ∧ p ≠ [] ∧ (∃ i f x, p[i]? = some f ∧ x ∈ f ∧ ¬ ActOk i p.length x) ∧ r = 3) ∨ (longB p = false ∧ p ≠ [] ∧ (∀ i f x, p[i]? = some f → x ∈ f → ActOk i p.length x) ∧ r = 0)
theorem check_any (w : World) (B : Nat) (Pa : Value) (p : List (List ActV)) (h : ProgQ w B Pa p) (hB : B ≤ w.heap.size) (hr : ProgR p) :
    Calls Tryd.prog 25 #[Pa] w fun e w' => ∃ r : Nat, e = .returned (.int .i64 (r : Int)) ∧ ChkV p r ∧ Off [] w w' := by
  have HL := Lib.hid (isLong_any w B Pa p h hr)
  obtain ⟨lb, hlb⟩ : ∃ lb, longB p = lb := ⟨_, rfl⟩
  rw [hlb] at HL
  have HLB := Lib.hid hlb
  obtain ⟨A, c, rfl, h2, h3⟩ := h
  obtain ⟨hr1, hr2⟩ := hr
  have H3 := Lib.hid h3
  have H2 := Lib.hid h2
  have HR := Lib.hid hr2
  clear h2 h3 hr2 hlb
  cases lb with
  | true =>
    go_enter Tryd.func25, Tryd.ntmps25
    go_wp2_with fail
    with_reducible refine HL.out.mono ?_
    rintro e w1 ⟨rfl, rfl⟩
    go_wp2
    go_ret
    exact ⟨2, rfl, Or.inl ⟨HLB.out, rfl⟩, Off.refl _ _⟩
  | false =>
    have hp32 : p.length ≤ 32 := by
      have := HLB.out
      simp [longB] at this
      exact this.1
    rcases Nat.eq_zero_or_pos p.length with h0 | h0
    · have hp0 : p = [] := List.eq_nil_of_length_eq_zero h0
      have HP0 := Lib.hid hp0
      rw [h0] at HL ⊢
      clear hp0 h0
      go_enter Tryd.func25, Tryd.ntmps25
      go_wp2_with fail
      with_reducible refine HL.out.mono ?_
      rintro e w1 ⟨rfl, rfl⟩
      go_wp2
      go_ret
      exact ⟨3, rfl, Or.inr (Or.inl ⟨HLB.out, HP0.out, rfl⟩), Off.refl _ _⟩
    · have hne : ((p.length : Int) == 0) = false := beq_eq_false_iff_ne.2 (by omega)
      have hpn : p ≠ [] := by intro e; rw [e] at h0; simp at h0
      have HPN := Lib.hid hpn
      clear hpn
      obtain ⟨a, rfl⟩ : ∃ a, A = some a := by
        cases A with
        | none => rw [H2.out rfl] at h0; simp at h0
        | some a => exact ⟨a, rfl⟩
      obtain ⟨ha, hab, hcl⟩ := H3.out a rfl
      obtain ⟨ab, ao, rfl⟩ : ∃ ab ao, a = ⟨ab, ao, none⟩ := ⟨_, _, ha⟩
      simp only at hab hcl
      have HCL := Lib.hid hcl
      clear hcl ha h0
      go_enter Tryd.func25, Tryd.ntmps25
      go_wp2_with fail
      with_reducible refine HL.out.mono ?_
      rintro e w1 ⟨rfl, rfl⟩
      go_wp2
      go_loopw [14] (fun iv wr => ∃ i : Nat, i ≤ p.length ∧ iv = .int .i64 (i : Int) ∧ (∀ j f x, j < i → p[j]? = some f → x ∈ f → ActOk j p.length x) ∧ Off [] w wr) (fun iv _ => p.length - (intOf iv).toNat)
      case atStart => exact ⟨0, Nat.zero_le _, rfl, fun j f x hj => by omega, Off.refl _ _⟩
      case round =>
        obtain ⟨i, hi, rfl, hfd, hof⟩ := hrel
        have HFD := Lib.hid hfd
        have HOF := Lib.hid hof
        clear hfd hof
        rcases Nat.lt_or_ge i p.length with h1 | h1
        · have hii : (i : Int) < (p.length : Int) := by omega
          have hi1 : IntKind.i64.wrap ((i : Int) + 1) = ((i + 1 : Nat) : Int) := by rw [IntWalk.i64_in _ (by omega)]; omega
          obtain ⟨f, hf⟩ : ∃ f, p[i]? = some f := ⟨p[i], List.getElem?_eq_getElem h1⟩
          obtain ⟨F, hF1, hF2⟩ := HCL.out i f hf
          have hbw : Below B w wr := HOF.out.below hB (by simp)
          have hF1' := (hbw.cell (p := ⟨ab, ao + i, none⟩) hab).trans hF1
          have HF2 := Lib.hid hF2
          obtain ⟨FA, fc, rfl, hfn, -⟩ := hF2
          have hfr := HR.out i f hf
          have hfl := hfr.1
          have HFR := Lib.hid hfr.2
          have HF := Lib.hid hf
          have HFN := Lib.hid hfn
          clear hf hF1 hfr hbw hfn
          go_upto_region 9 with (fail)
          have hni : i < 9223372036854775807 := by omega
          have hnp : p.length < 9223372036854775807 := by omega
          generalize wr = wx at *
          go_loopw [21] (fun jv wr => ∃ k : Nat, k ≤ f.length ∧ jv = .int .i64 (k : Int) ∧ (∀ x ∈ f.take k, ActOk i p.length x) ∧ Off [] w wr) (fun jv _ => f.length - (intOf jv).toNat)
          case atStart => exact ⟨0, Nat.zero_le _, rfl, by simp, HOF.out⟩
          case round =>
            obtain ⟨k, hk, rfl, hta, hof2⟩ := hrel
            have HTA := Lib.hid hta
            have HOF2 := Lib.hid hof2
            rcases Nat.lt_or_ge k f.length with h2 | h2
            · have hkk : (k : Int) < (f.length : Int) := by omega
              have hk1 : IntKind.i64.wrap ((k : Int) + 1) = ((k + 1 : Nat) : Int) := by rw [IntWalk.i64_in _ (by omega)]; omega
              obtain ⟨⟨ak, an⟩, hx⟩ : ∃ x, f[k]? = some x := ⟨f[k], List.getElem?_eq_getElem h2⟩
              have hxm : (ak, an) ∈ f := List.mem_of_getElem? hx
              obtain ⟨b1, b2, b3⟩ := HFR.out _ hxm
              simp only at b1 b2 b3
              obtain ⟨A2, c2, he, -, h3⟩ := HF2.out.below (hof2.below hB (by simp) : Below B w wr)
              injection he with he1 he2 he3
              obtain ⟨fa, rfl⟩ : ∃ fa, FA = some fa := by
                cases FA with
                | none => rw [HFN.out rfl] at h2; simp at h2
                | some fa => exact ⟨fa, rfl⟩
              obtain ⟨ha2, -, -, h4⟩ := h3 fa he1.symm
              obtain ⟨fb, fo, rfl⟩ : ∃ fb fo, fa = ⟨fb, fo, none⟩ := ⟨_, _, ha2⟩
              obtain ⟨x0, x1⟩ := h4 k (ak, an) hx
              simp only at x0 x1
              have htk : f.take (k + 1) = f.take k ++ [(ak, an)] := by
                rw [List.take_succ_eq_append_getElem h2]
                rw [List.getElem?_eq_getElem h2] at hx
                injection hx with hx
                rw [hx]
              have HTK := Lib.hid htk
              have HXM := Lib.hid hxm
              have HOA : Hid (Off [] w (wr.alloc (.cells #[.int .u8 (ak : Int), .int .i64 an] 24))) := Lib.hid (hof2.alloc _)
              have HA := Lib.hid (isAct_any (wr.alloc (.cells #[.int .u8 (ak : Int), .int .i64 an] 24)) ak an i p.length b1 hni hnp)
              clear h3 h4 he1 he2 he3 hta hof2 ha2 htk hxm hx
              by_cases hok : ActOk i p.length (ak, an)
              · rw [decide_eq_true hok] at HA
                have HOK := Lib.hid hok
                clear hok
                go_wp2_with fail
                with_reducible refine HA.out.mono ?_
                rintro e w3 ⟨rfl, hf3⟩
                have HO3 := Lib.hid (HOA.out.trans hf3)
                clear hf3
                go_wp2
                go_roundw
                case rel => first | exact ⟨k + 1, by omega, rfl, by rw [HTK.out]; intro x hx; rcases List.mem_append.1 hx with h | h; exact HTA.out x h; simp at h; rw [h]; exact HOK.out, HO3.out⟩ | ((repeat apply Exists.intro); exact ⟨⟨k + 1, by omega, rfl, by rw [HTK.out]; intro x hx; rcases List.mem_append.1 hx with h | h; exact HTA.out x h; simp at h; rw [h]; exact HOK.out, HO3.out⟩, rfl⟩)
                case measure => simp [intOf]; omega
              · rw [decide_eq_false hok] at HA
                have HOK := Lib.hid hok
                clear hok
                go_wp2_with fail
                with_reducible refine HA.out.mono ?_
                rintro e w3 ⟨rfl, hf3⟩
                have HO3 := Lib.hid (HOA.out.trans hf3)
                clear hf3
                go_wp2
                go_ret
                exact ⟨3, rfl, Or.inr (Or.inr (Or.inl ⟨HLB.out, HPN.out, ⟨i, f, _, HF.out, HXM.out, HOK.out⟩, rfl⟩)), HO3.out⟩
            · obtain rfl : k = f.length := by omega
              have hkk : ¬ (f.length : Int) < (f.length : Int) := by omega
              have hall : ∀ j f' x, j < i + 1 → p[j]? = some f' → x ∈ f' → ActOk j p.length x := by
                intro j f' x hj hf' hx
                by_cases e : j = i
                · subst e
                  rw [HF.out] at hf'
                  injection hf' with hf'
                  subst hf'
                  have := HTA.out
                  rw [List.take_length] at this
                  exact this x hx
                · exact HFD.out j f' x (by omega) hf' hx
              have HAL := Lib.hid hall
              clear hall hta hof2
              go_wp2
              go_roundw
              case rel => first | exact ⟨i + 1, by omega, rfl, HAL.out, HOF2.out⟩ | ((repeat apply Exists.intro); exact ⟨⟨i + 1, by omega, rfl, HAL.out, HOF2.out⟩, rfl⟩)
              case measure => simp [intOf]; omega
        · obtain rfl : i = p.length := by omega
          have hii : ¬ (p.length : Int) < (p.length : Int) := by omega
          go_wp2
          go_ret
          exact ⟨0, rfl, Or.inr (Or.inr (Or.inr ⟨HLB.out, HPN.out, fun j f x hj hx => HFD.out j f x (by have := (List.getElem?_eq_some_iff.1 hj).1; omega) hj hx, rfl⟩)), HOF.out⟩
end Go.Proofs.YtifldnkcheobhaaDoor
