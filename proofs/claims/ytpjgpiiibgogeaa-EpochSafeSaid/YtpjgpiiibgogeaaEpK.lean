/- Epochs: what holds whatever is picked. -/
import Derived.Test.YtpjgpiiibgogeaaEpM
namespace Go.Proofs.Ytpjgpiiibgogeaa
set_option linter.unusedVariables false

def srtG (gs : List (Int × Nat)) : Prop := gs.Pairwise (fun a b => a.2 ≤ b.2)
def FormY (E W : Nat) (k : WkV) (p : Nat) : EN → Prop
  | .none => p = k.pin
  | .unpin => p = k.pin
  | .advance => p = k.pin
  | .collect => p = k.pin
  | .retire _ => p = k.pin ∧ k.gs.length < 4096
  | .pin => k.pin = 0 ∧ p = 0
  | .mark old e => k.pin = 0 ∧ p = old ∧ e ≤ E ∧ old ≤ E + 1
  | .confirm e => k.pin = 0 ∧ p = e + 1 ∧ e ≤ E
  | .look j e => p = k.pin ∧ j < W ∧ e ≤ E
  | .move e => p = k.pin ∧ e ≤ E
structure FormK (E W : Nat) (k : WkV) (p : Nat) : Prop where
  len : k.gs.length ≤ 4096
  ep : ∀ g ∈ k.gs, g.2 ≤ E
  srt : srtG k.gs
  y : FormY E W k p k.nx
  near : k.pin ≠ 0 → E ≤ k.pin ∧ k.pin ≤ E + 1
def AdvY (E i q : Nat) : EN → Prop
  | .look j e => i < j → E = e → q ≠ 0 → q = e + 1
  | .move e => E = e → q ≠ 0 → q = e + 1
  | _ => True
structure InvE (W : Nat) (s : EpV) : Prop where
  len : s.ws.length = W + 1
  form : ∀ i, i < W → FormK s.E W (s.wk i) (s.P i)
  adv : ∀ a i, a < W → i < W → AdvY s.E i (s.wk i).pin (s.wk a).nx
theorem FormK.pp {E W : Nat} {k : WkV} {p : Nat} (h : FormK E W k p) (hp : k.pin ≠ 0) : p = k.pin := by
  have hy := h.y
  generalize k.nx = y at hy
  cases y <;> simp only [FormY] at hy
  all_goals first | exact hy | exact hy.1 | exact absurd hy.1 hp
theorem FormK.pin_le {E W : Nat} {k : WkV} {p : Nat} (h : FormK E W k p) : k.pin ≤ E + 1 := by
  by_cases hp : k.pin = 0
  · omega
  · exact (h.near hp).2
section
variable {W : Nat} {s s' : EpV} {i : Nat}
theorem EpV.wk_nx (s : EpV) (i : Nat) (y : EN) : (s.nx i y).wk i = { s.wk i with nx := y } := by simp [EpV.nx, EpV.setK, updF_same]
theorem EpV.wk_nx' (s : EpV) (i : Nat) (y : EN) {j : Nat} (h : j ≠ i) : (s.nx i y).wk j = s.wk j := by simp only [EpV.nx, EpV.setK]; rw [updF_other _ _ _ _ h]
theorem EpV.wk_setK (s : EpV) (i : Nat) (x : WkV) : (s.setK i x).wk i = x := by simp [EpV.setK, updF_same]
theorem EpV.wk_setK' (s : EpV) (i : Nat) (x : WkV) {j : Nat} (h : j ≠ i) : (s.setK i x).wk j = s.wk j := by simp only [EpV.setK]; rw [updF_other _ _ _ _ h]
theorem EpV.E_nx (s : EpV) (i : Nat) (y : EN) : (s.nx i y).E = s.E := rfl
theorem EpV.P_nx (s : EpV) (i : Nat) (y : EN) (j : Nat) : (s.nx i y).P j = s.P j := rfl
theorem EpV.E_setK (s : EpV) (i : Nat) (x : WkV) : (s.setK i x).E = s.E := rfl
theorem EpV.P_setK (s : EpV) (i : Nat) (x : WkV) (j : Nat) : (s.setK i x).P j = s.P j := rfl
theorem EpV.E_setW (s : EpV) (i v : Nat) : (s.setW (i + 1) v).E = s.E := by
  unfold EpV.E EpV.setW; simp [List.getD_eq_getElem?_getD]
theorem EpV.P_setW (s : EpV) (i v : Nat) (h : i + 1 < s.ws.length) : (s.setW (i + 1) v).P i = v := by
  unfold EpV.P EpV.setW; simp [List.getD_eq_getElem?_getD, h]
theorem EpV.P_setW' (s : EpV) (i v : Nat) {j : Nat} (h : j ≠ i) : (s.setW (i + 1) v).P j = s.P j := by
  unfold EpV.P EpV.setW
  rw [List.getD_eq_getElem?_getD, List.getD_eq_getElem?_getD, List.getElem?_set_ne (by omega)]
theorem EpV.E_setW0 (s : EpV) (v : Nat) (h : 0 < s.ws.length) : (s.setW 0 v).E = v := by
  unfold EpV.E EpV.setW; simp [List.getD_eq_getElem?_getD, h]
theorem EpV.P_setW0 (s : EpV) (v j : Nat) : (s.setW 0 v).P j = s.P j := by
  unfold EpV.P EpV.setW
  rw [List.getD_eq_getElem?_getD, List.getD_eq_getElem?_getD, List.getElem?_set_ne (by omega)]
theorem EpV.len_setW (s : EpV) (i v : Nat) : (s.setW i v).ws.length = s.ws.length := by unfold EpV.setW; simp
theorem EpV.wk_setW (s : EpV) (i v : Nat) : (s.setW i v).wk = s.wk := rfl
/-- One worker's change, the epoch standing still. -/
theorem InvE.updI (h : InvE W s) (hi : i < W) (hl : s'.ws.length = s.ws.length) (hE : s'.E = s.E) (hP : ∀ j, j ≠ i → s'.P j = s.P j) (hK : ∀ j, j ≠ i → s'.wk j = s.wk j)
    (hf : FormK s.E W (s'.wk i) (s'.P i)) (ha : ∀ j, j < W → j ≠ i → AdvY s.E j (s.wk j).pin (s'.wk i).nx) (hai : AdvY s.E i (s'.wk i).pin (s'.wk i).nx) (hb : ∀ a, a < W → a ≠ i → AdvY s.E i (s'.wk i).pin (s.wk a).nx) : InvE W s' := by
  refine ⟨hl.trans h.len, fun j hj => ?_, fun a j ha' hj => ?_⟩
  · rw [hE]
    by_cases e : j = i
    · subst e; exact hf
    · rw [hK j e, hP j e]; exact h.form j hj
  · rw [hE]
    by_cases e : j = i
    · subst e
      by_cases e2 : a = j
      · subst e2; exact hai
      · rw [hK a e2]; exact hb a ha' e2
    · rw [hK j e]
      by_cases e2 : a = i
      · subst e2; exact ha j hj e
      · rw [hK a e2]; exact h.adv a j ha' hj
/-- .. of what its call does next alone. -/
theorem InvE.updY (h : InvE W s) (hi : i < W) {y : EN} (hf : FormY s.E W (s.wk i) (s.P i) y) (ha : ∀ j, j < W → AdvY s.E j (s.wk j).pin y) : InvE W (s.nx i y) := by
  have hk := h.form i hi
  have e := s.wk_nx i y
  refine h.updI hi rfl rfl (fun j _ => rfl) (fun j hj => s.wk_nx' i y hj) ?_ (fun j hj _ => ?_) ?_ (fun a ha' _ => ?_)
  · rw [e]; exact ⟨hk.len, hk.ep, hk.srt, by cases y <;> exact hf, hk.near⟩
  · rw [e]; exact ha j hj
  · rw [e]; exact ha i hi
  · rw [e]; exact h.adv a i ha' hi
def initE (W : Nat) : EpV := ⟨List.replicate (W + 1) 0, fun _ => noWk⟩
theorem initE_E (W : Nat) : (initE W).E = 0 := by simp [initE, EpV.E, List.getD_eq_getElem?_getD]
theorem initE_P (W i : Nat) : (initE W).P i = 0 := by
  unfold initE EpV.P
  rw [List.getD_eq_getElem?_getD, List.getElem?_replicate]; split <;> rfl
theorem InvE.init (W : Nat) : InvE W (initE W) := by
  refine ⟨by simp [initE], fun i hi => ?_, fun a i _ _ => trivial⟩
  rw [initE_E, initE_P]
  exact ⟨by simp [initE], by simp [initE], by simp [initE, srtG], rfl, fun h => absurd rfl h⟩
theorem checkE_0 {k : WkV} {op : Nat} (h : checkE k op = 0) : k.nx = .none ∧ (op = 2 → k.pin ≠ 0) ∧ (op = 1 → k.pin = 0) ∧ (op = 3 → k.gs.length < 4096) := by
  unfold checkE at h
  split at h
  · cases h
  · rename_i h1
    refine ⟨by cases hy : k.nx <;> simp [isEN, hy] at h1 ⊢, ?_⟩
    split at h
    · cases h
    · split at h
      · cases h
      · split at h
        · cases h
        · rename_i h2 h3 h4
          refine ⟨fun e hp => h2 ⟨e, hp⟩, fun e => ?_, fun e => ?_⟩
          · by_cases hp : k.pin = 0
            · exact hp
            · exact absurd ⟨e, hp⟩ h3
          · rcases Nat.lt_or_ge k.gs.length 4096 with h | h
            · exact h
            · exact absurd ⟨e, h⟩ h4
theorem InvE.start (h : InvE W s) (hi : i < W) {op : Nat} (h1 : 1 ≤ op) (h5 : op ≤ 5) (hc : checkE (s.wk i) op = 0) (t : Int) : InvE W (s.nx i (firstE op t)) := by
  obtain ⟨hn, c2, c1, c3⟩ := checkE_0 hc
  have hk := h.form i hi
  have hy := hk.y
  rw [hn] at hy
  have hp : s.P i = (s.wk i).pin := hy
  rcases (by omega : op = 1 ∨ op = 2 ∨ op = 3 ∨ op = 4 ∨ op = 5) with rfl | rfl | rfl | rfl | rfl
  · exact h.updY hi (y := .pin) ⟨c1 rfl, by rw [hp]; exact c1 rfl⟩ (fun _ _ => trivial)
  · exact h.updY hi (y := .unpin) hp (fun _ _ => trivial)
  · exact h.updY hi (y := .retire t) ⟨hp, c3 rfl⟩ (fun _ _ => trivial)
  · exact h.updY hi (y := .advance) hp (fun _ _ => trivial)
  · exact h.updY hi (y := .collect) hp (fun _ _ => trivial)
theorem srtG_append {gs : List (Int × Nat)} {t : Int} {E : Nat} (h : srtG gs) (he : ∀ g ∈ gs, g.2 ≤ E) : srtG (gs ++ [(t, E)]) := by
  unfold srtG at *
  rw [List.pairwise_append]
  refine ⟨h, by simp, fun a ha b hb => ?_⟩
  simp only [List.mem_cons, List.not_mem_nil, or_false] at hb
  subst hb
  exact he a ha
theorem InvE.step (h : InvE W s) (hi : i < W) (hp : isEN (s.wk i).nx = true) : InvE W ((stepE W s i).s.nx i (stepE W s i).y) := by
  have hk := h.form i hi
  have hy := hk.y
  have hl := h.len
  unfold stepE
  cases hn : (s.wk i).nx with
  | none => rw [hn] at hp; cases hp
  | pin =>
    rw [hn] at hy
    exact h.updY hi (y := .mark 0 s.E) ⟨hy.1, hy.2, Nat.le_refl _, by omega⟩ (fun _ _ => trivial)
  | mark old e =>
    rw [hn] at hy
    obtain ⟨y1, y2, y3, y4⟩ := hy
    simp only
    rw [if_pos y2]
    have e1 := (s.setW (i + 1) (e + 1)).wk_nx i (.confirm e)
    rw [s.wk_setW] at e1
    refine h.updI hi (s.len_setW _ _) (s.E_setW _ _) (fun j hj => s.P_setW' _ _ hj) (fun j hj => (s.setW (i + 1) (e + 1)).wk_nx' i _ hj) ?_ (fun j hj _ => ?_) ?_ (fun a ha' _ => ?_)
    · rw [e1, EpV.P_nx, s.P_setW i (e + 1) (by omega)]
      exact ⟨hk.len, hk.ep, hk.srt, ⟨y1, rfl, y3⟩, hk.near⟩
    · rw [e1]; trivial
    · rw [e1]; trivial
    · rw [e1]; exact h.adv a i ha' hi
  | confirm e =>
    rw [hn] at hy
    obtain ⟨y1, y2, y3⟩ := hy
    simp only
    split
    · rename_i hE
      have e1 : ((s.setK i { s.wk i with pin := e + 1 }).nx i .none).wk i = { s.wk i with pin := e + 1, nx := .none } := by rw [EpV.wk_nx, EpV.wk_setK]
      refine h.updI hi rfl rfl (fun j hj => rfl) (fun j hj => by rw [EpV.wk_nx' _ _ _ hj, EpV.wk_setK' _ _ _ hj]) ?_ (fun j hj _ => ?_) ?_ (fun a ha' _ => ?_)
      · rw [e1]
        exact ⟨hk.len, hk.ep, hk.srt, y2, fun _ => ⟨by show s.E ≤ e + 1; omega, by show e + 1 ≤ s.E + 1; omega⟩⟩
      · rw [e1]; trivial
      · rw [e1]; trivial
      · rw [e1]
        show AdvY s.E i (e + 1) (s.wk a).nx
        cases (s.wk a).nx <;> simp only [AdvY]
        all_goals intros; omega
    · exact h.updY hi (y := .mark (e + 1) s.E) ⟨y1, y2, Nat.le_refl _, by omega⟩ (fun _ _ => trivial)
  | unpin =>
    rw [hn] at hy
    have y1 : s.P i = (s.wk i).pin := hy
    simp only
    rw [if_pos y1]
    have e1 : (((s.setW (i + 1) 0).setK i { s.wk i with pin := 0 }).nx i .none).wk i = { s.wk i with pin := 0, nx := .none } := by rw [EpV.wk_nx, EpV.wk_setK]
    refine h.updI hi (s.len_setW _ _) (s.E_setW _ _) (fun j hj => s.P_setW' _ _ hj) (fun j hj => by rw [EpV.wk_nx' _ _ _ hj, EpV.wk_setK' _ _ _ hj]; rfl) ?_ (fun j hj _ => ?_) ?_ (fun a ha' _ => ?_)
    · rw [e1]
      exact ⟨hk.len, hk.ep, hk.srt, s.P_setW i 0 (by omega), fun h => absurd rfl h⟩
    · rw [e1]; trivial
    · rw [e1]; trivial
    · rw [e1]
      show AdvY s.E i 0 (s.wk a).nx
      cases (s.wk a).nx <;> simp [AdvY]
  | retire t =>
    rw [hn] at hy
    have e1 : ((s.setK i { s.wk i with gs := (s.wk i).gs ++ [(t, s.E)] }).nx i .none).wk i = { s.wk i with gs := (s.wk i).gs ++ [(t, s.E)], nx := .none } := by rw [EpV.wk_nx, EpV.wk_setK]
    refine h.updI hi rfl rfl (fun j hj => rfl) (fun j hj => by rw [EpV.wk_nx' _ _ _ hj, EpV.wk_setK' _ _ _ hj]) ?_ (fun j hj _ => ?_) ?_ (fun a ha' _ => ?_)
    · rw [e1]
      refine ⟨by have := hy.2; simp; omega, fun g hg => ?_, srtG_append hk.srt hk.ep, hy.1, hk.near⟩
      rcases List.mem_append.1 hg with hg | hg
      · exact hk.ep g hg
      · simp only [List.mem_cons, List.not_mem_nil, or_false] at hg
        rw [hg]; exact Nat.le_refl _
    · rw [e1]; trivial
    · rw [e1]; trivial
    · rw [e1]; exact h.adv a i ha' hi
  | advance =>
    rw [hn] at hy
    refine h.updY hi (y := .look 0 s.E) ⟨hy, by omega, Nat.le_refl _⟩ (fun j _ => ?_)
    intro hj
    omega
  | look j e =>
    rw [hn] at hy
    obtain ⟨y1, y2, y3⟩ := hy
    simp only
    have hadv : ∀ q, q < W → q < j → AdvY s.E q (s.wk q).pin (.move e) := fun q hq hqj h1 h2 => by
      have := h.adv i q hi hq
      rw [hn] at this
      exact this hqj h1 h2
    split
    · exact h.updY hi (y := .none) y1 (fun _ _ => trivial)
    · rename_i hv
      have hj : AdvY s.E j (s.wk j).pin (.move e) := fun h1 h2 => by
        have := (h.form j y2).pp h2
        omega
      split
      · refine h.updY hi (y := .look (j + 1) e) ⟨y1, by omega, y3⟩ (fun q hq => ?_)
        intro h1 h2 h3
        rcases (by omega : q < j ∨ q = j) with h | h
        · exact hadv q hq h h2 h3
        · subst h; exact hj h2 h3
      · refine h.updY hi (y := .move e) ⟨y1, y3⟩ (fun q hq => ?_)
        rcases (by omega : q < j ∨ q = j) with h | h
        · exact hadv q hq h
        · subst h; exact hj
  | move e =>
    rw [hn] at hy
    obtain ⟨y1, y2⟩ := hy
    simp only
    split
    · rename_i hE
      have hE' : ((s.setW 0 (e + 1)).nx i .none).E = e + 1 := s.E_setW0 _ (by omega)
      have hP' : ∀ j, ((s.setW 0 (e + 1)).nx i .none).P j = s.P j := fun j => s.P_setW0 _ j
      have hm : ∀ q, q < W → (s.wk q).pin ≠ 0 → (s.wk q).pin = e + 1 := fun q hq hq0 => by
        have := h.adv i q hi hq
        rw [hn] at this
        exact this hE hq0
      have hw : ∀ j, ((s.setW 0 (e + 1)).nx i .none).wk j = { s.wk j with nx := if j = i then .none else (s.wk j).nx } := fun j => by
        by_cases hj : j = i
        · subst hj; rw [EpV.wk_nx, if_pos rfl]; rfl
        · rw [EpV.wk_nx' _ _ _ hj, if_neg hj]; rfl
      refine ⟨(s.len_setW _ _).trans h.len, fun j hj => ?_, fun a j ha hj => ?_⟩
      · rw [hE', hP', hw]
        have hk2 := h.form j hj
        refine ⟨hk2.len, fun g hg => by have := hk2.ep g hg; omega, hk2.srt, ?_, fun h0 => ?_⟩
        · by_cases hj : j = i
          · subst hj; rw [if_pos rfl]; exact y1
          · rw [if_neg hj]
            have hy2 := hk2.y
            revert hy2
            cases (s.wk j).nx <;> simp only [FormY] <;> intros <;> first | assumption | omega
        · have := hm j hj h0
          show e + 1 ≤ (s.wk j).pin ∧ (s.wk j).pin ≤ e + 1 + 1
          omega
      · rw [hE', hw, hw]
        show AdvY (e + 1) j (s.wk j).pin (if a = i then .none else (s.wk a).nx)
        by_cases hj2 : a = i
        · rw [if_pos hj2]; trivial
        · rw [if_neg hj2]
          have hy2 := (h.form a ha).y
          revert hy2
          cases (s.wk a).nx <;> simp only [FormY, AdvY] <;> intros <;> first | trivial | omega
    · exact h.updY hi (y := .none) y1 (fun _ _ => trivial)
  | collect =>
    rw [hn] at hy
    have e1 : ((s.setK i { s.wk i with gs := (s.wk i).gs.drop (oldN s.E (s.wk i).gs) }).nx i .none).wk i = { s.wk i with gs := (s.wk i).gs.drop (oldN s.E (s.wk i).gs), nx := .none } := by rw [EpV.wk_nx, EpV.wk_setK]
    refine h.updI hi rfl rfl (fun j hj => rfl) (fun j hj => by rw [EpV.wk_nx' _ _ _ hj, EpV.wk_setK' _ _ _ hj]) ?_ (fun j hj _ => ?_) ?_ (fun a ha' _ => ?_)
    · rw [e1]
      exact ⟨by have := hk.len; simp; omega, fun g hg => hk.ep g (List.mem_of_mem_drop hg), List.Pairwise.sublist (List.drop_sublist _ _) hk.srt, hy, hk.near⟩
    · rw [e1]; trivial
    · rw [e1]; trivial
    · rw [e1]; exact h.adv a i ha' hi
theorem stepE_E (h : InvE W s) (i : Nat) : s.E ≤ (stepE W s i).s.E ∧ (stepE W s i).s.E ≤ s.E + 1 := by
  have hl := h.len
  unfold stepE
  cases hn : (s.wk i).nx with
  | mark old e => simp only; split <;> (first | rw [EpV.E_setW] | skip) <;> omega
  | confirm e => simp only; split <;> simp [EpV.E_setK]
  | unpin => simp only; rw [EpV.E_setK]; split <;> (first | rw [EpV.E_setW] | skip) <;> omega
  | look j e => simp only; split <;> (first | (split <;> simp; done) | simp)
  | move e =>
    simp only
    split
    · rw [s.E_setW0 _ (by omega)]; omega
    · simp
  | none => simp
  | pin => simp
  | retire t => simp [EpV.E_setK]
  | advance => simp
  | collect => simp [EpV.E_setK]
end
end Go.Proofs.Ytpjgpiiibgogeaa
