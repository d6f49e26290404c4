/- Contract: Step of an Epochs, whatever its worker's call does next. -/
import Derived.Test.YtpjgpiiibgogeaaEpS
import Derived.Test.YtpjgpiiibgogeaaEpK
namespace Go.Proofs.Ytpjgpiiibgogeaa
open Go.RowKit
set_option maxRecDepth 100000
set_option linter.unusedVariables false

section
variable {w w' : World} {B x b bw wb W : Nat} {X : List Nat} {k : Nat} {s : EpV} {fv : Nat → Value} {rA : Nat → Option Addr} {rc : Nat → Nat} {ring : List Value} {p : Nat} {v : Value}
theorem BlkL.al {p : Nat} {vs : List Value} (h : BlkL w p vs) : BlkL (w.alloc RB) p vs := h.alloc _
theorem QE.al (h : EpR w B x b bw wb W X k s fv rA rc ring) {v : Value} (hb : BlkL w p [v]) (a : ¬ QE x b bw wb W X rA p) : ¬ QE x b bw wb W (w.heap.size :: X) rA p := by
  intro hq
  refine a ?_
  rcases hq with hq | hq
  · left
    simp only [List.mem_cons] at hq ⊢
    have := hb.lt
    rcases hq with e | e | e | e | e | e
    · exact .inl e
    · exact .inr (.inl e)
    · exact .inr (.inr (.inl e))
    · exact .inr (.inr (.inr (.inl e)))
    · omega
    · exact .inr (.inr (.inr (.inr e)))
  · exact .inr hq
theorem estep_any (h : EpR w B x b bw wb W X k s fv rA rc ring) (hI : InvE W s) (hE : s.E ≤ k) (hk : k < 2305843009213693952) (i : Nat) (hi : i < W) (hp : isEN (s.wk i).nx = true) :
    Calls Try.prog 18 #[PV x, IV i] w (EsE w B x b bw wb W X k i (stepE W s i)) := by
  have hc := h.cl i hi
  have hf := hI.form i hi
  have hy := hf.y
  have hpn := hf.pin_le
  have hb0 : Below w.heap.size w (w.alloc RB) := (Below.refl w.heap.size w).alloc (Nat.le_refl _) _
  have e0 := h.reX (X' := w.heap.size :: X) hb0 (fun y hy => by rcases List.mem_cons.1 hy with e | e; exact .inr ⟨by omega, by rw [e]; simp⟩; exact .inl e)
  have hk' : k < 9223372036854775807 := by omega
  unfold stepE
  cases hn : (s.wk i).nx with
  | none => rw [hn] at hp; cases hp
  | pin =>
    rw [hn] at hc hy
    obtain ⟨p0, p1, hfi, ⟨b0, n0⟩, b1, n1⟩ := hc.cl2
    exact estep_gen h i hi hp _ _ hfi (fun _ => rfl) _ (cl_pin e0 hk' i hi p0 p1 b0.al b1.al (QE.al h b0 n0) (QE.al h b1 n1))
  | advance =>
    rw [hn] at hc hy
    obtain ⟨p0, p1, hfi, ⟨b0, n0⟩, b1, n1⟩ := hc.cl2
    exact estep_gen h i hi hp _ _ hfi (fun _ => rfl) _ (cl_advance e0 hk' i hi p0 p1 b0.al b1.al (QE.al h b0 n0) (QE.al h b1 n1))
  | mark old e =>
    rw [hn] at hc hy
    have := hy.2.2.1
    obtain ⟨p0, p1, p2, p3, hfi, ⟨b0, n0⟩, ⟨b1, n1⟩, ⟨b2, n2⟩, b3, n3⟩ := hc.cl4
    exact estep_gen h i hi hp _ _ hfi (fun _ => rfl) _ (cl_mark e0 hk' i hi old e (by omega) _ rfl p0 p1 p2 p3 b0.al b1.al b2.al b3.al (QE.al h b0 n0) (QE.al h b1 n1) (QE.al h b2 n2) (QE.al h b3 n3))
  | confirm e =>
    rw [hn] at hc hy
    have := hy.2.2
    obtain ⟨p0, p1, p2, hfi, ⟨b0, n0⟩, ⟨b1, n1⟩, b2, n2⟩ := hc.cl3
    simp only
    split
    · rename_i hE2
      exact estep_gen h i hi hp _ _ hfi (fun _ => rfl) _ (cl_confirm_ok e0 hk' i hi e (by omega) hE2 p0 p1 p2 b0.al b1.al b2.al (QE.al h b0 n0) (QE.al h b1 n1) (QE.al h b2 n2))
    · rename_i hE2
      exact estep_gen h i hi hp _ _ hfi (fun _ => rfl) _ (cl_confirm_no e0 hk' i hi e (by omega) hE2 p0 p1 p2 b0.al b1.al b2.al (QE.al h b0 n0) (QE.al h b1 n1) (QE.al h b2 n2))
  | unpin =>
    rw [hn] at hc hy
    obtain ⟨p0, p1, hfi, ⟨b0, n0⟩, b1, n1⟩ := hc.cl2
    have hw : (if s.P i = (s.wk i).pin then s.setW (i + 1) 0 else s).wk = s.wk := by split <;> rfl
    have := cl_unpin e0 hk' i hi _ rfl p0 p1 b0.al b1.al (QE.al h b0 n0) (QE.al h b1 n1)
    rw [hw] at this
    exact estep_gen h i hi hp _ _ hfi (fun _ => rfl) _ this
  | retire t =>
    rw [hn] at hc hy
    have := hy.2
    obtain ⟨p0, p1, p2, hfi, ⟨b0, n0⟩, ⟨b1, n1⟩, b2, n2⟩ := hc.cl3
    exact estep_gen h i hi hp _ _ hfi (fun _ => rfl) _ (cl_retire e0 hk' i hi t (by omega) this p0 p1 p2 b0.al b1.al b2.al (QE.al h b0 n0) (QE.al h b1 n1) (QE.al h b2 n2))
  | look j e =>
    rw [hn] at hc hy
    obtain ⟨_, hj, he⟩ := hy
    obtain ⟨p0, p1, p2, p3, hfi, ⟨b0, n0⟩, ⟨b1, n1⟩, ⟨b2, n2⟩, b3, n3⟩ := hc.cl4
    simp only
    split
    · rename_i hv
      exact estep_gen h i hi hp _ _ hfi (fun _ => rfl) _ (cl_look_busy e0 hk' i hi j e hj (by omega) hv p0 p1 p2 p3 b0.al b1.al b2.al b3.al (QE.al h b0 n0) (QE.al h b1 n1) (QE.al h b2 n2) (QE.al h b3 n3))
    · rename_i hv
      split
      · rename_i hj2
        exact estep_gen h i hi hp _ _ hfi (fun _ => rfl) _ (cl_look_on e0 hk' i hi j e hj (by omega) hv hj2 p0 p1 p2 p3 b0.al b1.al b2.al b3.al (QE.al h b0 n0) (QE.al h b1 n1) (QE.al h b2 n2) (QE.al h b3 n3))
      · rename_i hj2
        exact estep_gen h i hi hp _ _ hfi (fun _ => rfl) _ (cl_look_end e0 hk' i hi j e hj (by omega) hv hj2 p0 p1 p2 p3 b0.al b1.al b2.al b3.al (QE.al h b0 n0) (QE.al h b1 n1) (QE.al h b2 n2) (QE.al h b3 n3))
  | move e =>
    rw [hn] at hc hy
    have := hy.2
    obtain ⟨p0, p1, p2, hfi, ⟨b0, n0⟩, ⟨b1, n1⟩, b2, n2⟩ := hc.cl3
    simp only
    split
    · rename_i hE2
      exact estep_gen h i hi hp _ _ hfi (fun _ => rfl) _ (cl_move_ok e0 hk' i hi e (by omega) hE2 p0 p1 p2 b0.al b1.al b2.al (QE.al h b0 n0) (QE.al h b1 n1) (QE.al h b2 n2))
    · rename_i hE2
      exact estep_gen h i hi hp _ _ hfi (fun _ => rfl) _ (cl_move_no e0 hk' i hi e (by omega) hE2 p0 p1 p2 b0.al b1.al b2.al (QE.al h b0 n0) (QE.al h b1 n1) (QE.al h b2 n2))
  | collect =>
    rw [hn] at hc hy
    obtain ⟨p0, p1, hfi, ⟨b0, n0⟩, b1, n1⟩ := hc.cl2
    exact estep_gen h i hi hp _ _ hfi (fun _ => rfl) _ (cl_collect e0 hk' i hi (by omega) (fun g hg => by have := hf.ep g hg; omega) hf.len p0 p1 b0.al b1.al (QE.al h b0 n0) (QE.al h b1 n1))
end
end Go.Proofs.Ytpjgpiiibgogeaa
