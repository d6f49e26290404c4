/- An Epochs: the function value of a pending Collect. -/
import Derived.Test.YtpjgpiiibgogeaaEpI
namespace Go.Proofs.Ytpjgpiiibgogeaa
open Go.RowKit
set_option maxRecDepth 100000
set_option linter.unusedVariables false

/-- .. with things. -/
theorem ClR.finT {w w5 : World} {B x b bw wb W : Nat} {X X5 : List Nat} {k : Nat} {fv : Nat → Value} {i : Nat} {q : EqV} {s : EpV} {y : EN} {f : Value} {rA' : Nat → Option Addr} {rc' : Nat → Nat} {ring' : List Value} {e : Ending} {A : Option Addr} {c : Nat}
    (hB : B ≤ w.heap.size) (hX : ∀ y ∈ X, y < w.heap.size) (h : EpR w5 B x b bw wb W X5 (k + 1) s fv rA' rc' ring') (h5 : ∀ y ∈ w.heap.size :: (thX A ++ X), y ∈ X5) (hc : ClV w5 (QE x b bw wb W X5 rA') (capsE x i y) f) (hf : FrX B X w w5) (v0 v1 v2 v3 : Value)
    (ho : OwnC w5 w.heap.size TI 1 A q.th.length c (thI q.th)) (hA : w.heap.size ∉ thX A) (he : e = .returned (.tuple #[RsV q A c, f])) :
    ClR w B x b bw wb W X k fv i ⟨q, s, y⟩ e ((((w5.setCell ⟨w.heap.size, 0, none⟩ v0).setCell ⟨w.heap.size, 1, none⟩ v1).setCell ⟨w.heap.size, 2, none⟩ v2).setCell ⟨w.heap.size, 3, none⟩ v3) := by
  have hp := off_put4 (Off.refl [w.heap.size] w5) (r := w.heap.size) (by simp) v0 v1 v2 v3
  have hn : w.heap.size ∉ X := fun hm => by have := hX _ hm; omega
  have hr5 : w.heap.size ∈ X5 := h5 _ (by simp)
  refine ⟨A, c, rA', rc', ring', f, he, (h.offX hp (by simp only [List.mem_cons, List.not_mem_nil, or_false]; rintro y rfl; exact hr5)).reX (Below.refl _ _) (fun y hy => .inl (h5 y (List.mem_cons_of_mem _ hy))), ?_, ho.off hp (fun a ha hm => ?_), hf.trans ⟨_, hp, fun y hy => ?_⟩⟩
  · refine (hc.off hp (fun y hy => .inl ?_)).weak (fun p _ hq' => ?_)
    · simp only [List.mem_cons, List.not_mem_nil, or_false] at hy; subst hy; simp [hr5]
    rcases hq' with hq' | hq'
    · left; simp only [List.mem_cons] at hq' ⊢
      rcases hq' with e | e | e | e | e
      · simp [e]
      · simp [e]
      · simp [e]
      · simp [e]
      · have := h5 p (List.mem_cons_of_mem _ e); simp [this]
    · exact .inr hq'
  · simp only [List.mem_cons, List.not_mem_nil, or_false] at hm
    exact hA (by rw [ha]; simp [thX, hm])
  · simp only [List.mem_cons, List.not_mem_nil, or_false] at hy
    subst hy
    exact ⟨hB, hn⟩
theorem GVs_take (gs : List (Int × Nat)) (n : Nat) : (GVs gs).take (n * 2) = GVs (gs.take n) := by
  induction gs generalizing n with
  | nil => simp [GVs]
  | cons a gs ih =>
    cases n with
    | zero => simp [GVs]
    | succ n =>
      rw [show (n + 1) * 2 = n * 2 + 1 + 1 by omega, List.take_succ_cons]
      show (GVc a ++ GVs gs).take (n * 2 + 1 + 1) = GVc a ++ GVs (gs.take n)
      rw [← ih]
      rfl
theorem OwnC.off0 {w : World} {B k n c : Nat} {T : TypeId} {a : Addr} {cs : List Value} (h : OwnC w B T k (some a) n c cs) : a = ⟨a.block, 0, none⟩ := by
  rcases h.2 with ⟨h1, h2⟩ | ⟨g, cap, cur, h1, h2, h3⟩
  · injection h1 with h1; cases h1
  · injection h1 with h1; cases h1; rfl
theorem OwnC.frx {w w' : World} {B B' k n c : Nat} {T : TypeId} {A : Option Addr} {cs : List Value} {X : List Nat} (h : OwnC w B T k A n c cs) (hf : FrX B' X w w') (hA : ∀ y ∈ thX A, y ∈ X) : OwnC w' B T k A n c cs := by
  obtain ⟨S, h1, h2⟩ := hf
  exact h.off h1 (fun a ha hm => (h2 _ hm).2 (hA _ (by rw [ha]; simp [thX])))
theorem OwnC.lower {w : World} {B B' k n c : Nat} {T : TypeId} {A : Option Addr} {cs : List Value} (h : OwnC w B T k A n c cs) (hB : B' ≤ B) : OwnC w B' T k A n c cs := by
  refine ⟨h.1, ?_⟩
  rcases h.2 with h | ⟨g, cap, cur, h1, h2, h3⟩
  · exact .inl h
  · exact .inr ⟨g, cap, cur, h1, by omega, h3⟩
theorem delete_any (w : World) (B : Nat) (A : Option Addr) (L c n : Nat) (gs : List (Int × Nat)) (h : OwnC w B TG 2 A L c (GVs gs)) (hn : n ≤ L) (hL : L ≤ 4096) :
    Calls Try.prog 107 #[.slice A L c, .int .i64 0, .int .i64 (n : Int)] w fun e w' => e = .returned (.slice A (L - n) c) ∧ OwnC w' B TG 2 A (L - n) c (GVs (gs.drop n)) ∧ Off (thX A) w w' := by
  have hle := h.arg.le
  have hcap := h.arg.cap
  by_cases h0 : n = 0
  · subst h0
    refine (delete_none w A L c hle hcap).mono ?_
    rintro e w' ⟨rfl, rfl⟩
    exact ⟨rfl, h, Off.refl _ _⟩
  · cases A with
    | none =>
      have h1 := h.arg.none_ rfl
      omega
    | some a =>
      have ha := h.off0
      rw [ha] at h ⊢
      exact delete_some w B a.block L c n gs h (by omega) hn hL hcap hle
theorem things2_any (w : World) (B : Nat) (A : Option Addr) (n c : Nat) (gs : List (Int × Nat)) (h : ArgC w B 2 A n c (GVs gs)) (hB : B ≤ w.heap.size) (hn : n ≤ 4096) :
    Calls Try.prog 61 #[.slice A n c] w fun e w' => ∃ A' c', e = .returned (.slice A' n c') ∧ OwnC w' w.heap.size TI 1 A' n c' (thI (gs.map (·.1))) ∧ Below w.heap.size w w' := by
  have hl := h.len
  rw [GVs_len] at hl
  have he : (gs.map (·.1)).length = n := by simp; omega
  have := things_any w B A n c gs h hB hn
  unfold ThE at this
  rwa [he] at this
section
variable {w w' : World} {B x b bw wb W : Nat} {X : List Nat} {k : Nat} {s : EpV} {fv : Nat → Value} {rA : Nat → Option Addr} {rc : Nat → Nat} {ring : List Value} {p : Nat} {v : Value}

set_option maxHeartbeats 6400000 in
theorem cl_collect (h : EpR w B x b bw wb W X k s fv rA rc ring) (hk : k < 9223372036854775807) (i : Nat) (hi : i < W) (hE : s.E < 9223372036854775807) (hg : ∀ g ∈ (s.wk i).gs, g.2 < 4611686018427387904) (hL : (s.wk i).gs.length ≤ 4096) (p0 : Nat) (p1 : Nat) (h0 : BlkL w p0 [PV x]) (h1 : BlkL w p1 [IV i]) (a0 : ¬ QE x b bw wb W X rA p0) (a1 : ¬ QE x b bw wb W X rA p1) :
    Calls Try.prog 106 #[PV p0, PV p1] w (ClR w B x b bw wb W X k fv i ⟨⟨true, 0, oldN s.E (s.wk i).gs, ((s.wk i).gs.take (oldN s.E (s.wk i).gs)).map (·.1)⟩, s.setK i { s.wk i with gs := (s.wk i).gs.drop (oldN s.E (s.wk i).gs) }, .none⟩) := by
  have hb0 : Below w.heap.size w (w.alloc RB) := ((Below.refl w.heap.size w).alloc (Nat.le_refl _) _)
  have e0 := h.reX (X' := w.heap.size :: X) hb0 (fun y hy => by rcases List.mem_cons.1 hy with e | e; exact .inr ⟨by omega, by rw [e]; simp⟩; exact .inl e)
  have K0 := Lib.hid (h0.below hb0)
  have g0 := h0.cell 0 _ rfl
  have l0 := h0.lt
  have A0 := Lib.hid a0
  have K1 := Lib.hid (h1.below hb0)
  have g1 := h1.cell 0 _ rfl
  have l1 := h1.lt
  have A1 := Lib.hid a1
  have KR := Lib.hid (BlkL.new w [.bool false, .int .i64 0, .int .i64 0, .slice none 0 0] 37)
  have hrb : w.heap.size ∉ [b, bw] := by have := h.lts; simp; omega
  have HRB := Lib.hid hrb
  have HB0 := Lib.hid hb0
  have H := Lib.hid h
  have HL := Lib.hid (load0_any e0 hk i hi)
  have ew2 : IntKind.i64.wrap (s.E : Int) = (s.E : Int) := IntWalk.i64_in _ (by omega)
  have ew3 : IntKind.i64.wrap ((s.E : Int) - 2) = (s.E : Int) - 2 := IntWalk.i64_in _ (by omega)
  have j0 : (0 : Int) ≤ (i : Int) := by omega
  have j1 : (i : Int) < (W : Int) := by omega
  have hgb : ∀ j, j < (s.wk i).gs.length → ((s.wk i).gs.getD j (0, 0)).2 < 4611686018427387904 := fun j hj => hg _ (by rw [List.getD_eq_getElem?_getD, List.getElem?_eq_getElem hj]; exact List.getElem_mem hj)
  have HGB := Lib.hid hgb
  clear h hb0 hrb h0 a0 h1 a1 e0 hg hgb
  go_enter Try.func106, Try.ntmps106
  go_wp2_with fail
  with_reducible refine (HL.out).mono ?_
  rintro e w2 ⟨rfl, ⟨ring2, e2⟩, hf2⟩
  have k0 := cap_ld K0.out A0.out hf2
  have k1 := cap_ld K1.out A1.out hf2
  have n0 := k0.cell 0 _ rfl
  have m0 := k0.lt
  have n1 := k1.cell 0 _ rfl
  have m1 := k1.lt
  have c1 := e2.c1
  have u2 := e2.k2 hi
  have f2 := e2.fr (i := i * 3 + 2) (by omega)
  have lw := e2.lts.2.2.2
  have lx := e2.lts.1
  have KR2 := Lib.hid (KR.out.off (hf2.mono (S' := [b, bw]) (by simp)) HRB.out)
  have HE2 := Lib.hid e2
  have HF2 := Lib.hid hf2
  clear k0 k1 e2 hf2 HL K0 K1
  generalize hEE : s.E = E at *
  have HEE := Lib.hid hEE
  clear hEE
  have HROW := Lib.hid (HE2.out.row i hi)
  have HLL := Lib.hid hL
  have hs2 : w.heap.size < w2.heap.size := by have := HF2.out.size; simp at this; omega
  have hcl : (s.wk i).gs.length ≤ rc i := HROW.out.arg.le
  have hcm := HROW.out.arg.cap
  generalize hgs : (s.wk i).gs = gs at *
  generalize hrA : rA i = A at *
  generalize hrc : rc i = rcc at *
  have HG := Lib.hid (And.intro hgs (And.intro hrA hrc))
  clear hgs hrA hrc
  go_wp2_with fail
  go_region
  go_wp2
  go_loopw [6] (fun nv wr => ∃ n : Nat, n ≤ gs.length ∧ nv = .int .i64 (n : Int) ∧ wr = w2.drew ∧ ∀ j, j < n → (gs.getD j (0, 0)).2 + 2 ≤ E) (fun nv _ => gs.length - (intOf nv).toNat)
  case atStart => exact ⟨0, Nat.zero_le _, rfl, rfl, fun j hj => by omega⟩
  case round =>
    obtain ⟨n, hn, rfl, rfl, hold⟩ := hrel
    have HOLD := Lib.hid hold
    clear hold
    rcases Nat.lt_or_ge n gs.length with hlt | hge
    · have hb := HGB.out n hlt
      obtain ⟨g, off, rfl, hgB, hcl2⟩ := HROW.out.arg.at_ (by omega)
      have ha := GVs_at gs n hlt
      have c2 : w2.drew.cell? ⟨g, off + n * 2 + 1, none⟩ = some (.int .i64 ((gs.getD n (0, 0)).2 : Nat)) := (hcl2 (n * 2 + 1) (by omega)).trans ha.2
      clear ha hcl2
      have j2 : (0 : Int) ≤ (n : Int) := by omega
      have j3 : (n : Int) < (gs.length : Int) := by omega
      generalize hy : gs.getD n (0, 0) = y at *
      have HY := Lib.hid hy
      clear hy
      obtain ⟨yt, ye⟩ := y
      simp only at c2 hb
      rcases hd : decide (ye + 2 ≤ E) with _ | _
      · have hd2 : ¬ ye + 2 ≤ E := by simpa using hd
        have hd3 : decide ((ye : Int) ≤ (E : Int) - 2) = false := by simp; omega
        have HN : Hid (oldN E gs = n) := Lib.hid (oldN_eq hn HOLD.out (fun _ => by rw [HY.out]; exact hd2))
        clear hd hd2
        have HN2 : n ≤ 4096 := by omega
        have htk : (gs.take n).length = n := by rw [List.length_take]; omega
        have HTH := Lib.hid (things2_any w2.drew w2.heap.size (some ⟨g, off, none⟩) n rcc (gs.take n) (by rw [← GVs_take]; exact (HROW.out.arg.to_ (m := n) (by omega)).drewN 1) (Nat.le_refl _) HN2)
        go_wp2_with fail
        with_reducible refine HTH.out.mono ?_
        rintro e w3 ⟨A', c', rfl, ho3, hb3⟩
        have hb3' : Below w2.heap.size w2 w3 := (show Below w2.heap.size w2 w2.drew from (Below.refl _ _).drew).trans hb3
        have hs3 := hb3'.size
        have hb4 : Below w2.heap.size w2 (w3.alloc (.cells #[.bool true, .int .i64 0, .int .i64 (n : Int), .slice A' n c'] 37)) := hb3'.alloc hs3 _
        have e4 := HE2.out.reX (X' := w3.heap.size :: (thX A' ++ (w.heap.size :: X))) hb4 (fun y hy => by
          rcases List.mem_cons.1 hy with e | e
          · subst e; exact .inr ⟨hs3, by simp⟩
          · rcases List.mem_append.1 e with e | e
            · obtain ⟨a, e1, rfl⟩ := thX_mem _ e
              have := ho3.lt a e1
              exact .inr ⟨this.1, by simp; omega⟩
            · exact .inl e)
        have HKR2 := Lib.hid (BlkL.new w3 [.bool true, .int .i64 0, .int .i64 (n : Int), .slice A' n c'] 37)
        have HO4 := Lib.hid (ho3.below ((Below.refl w3.heap.size w3).alloc (Nat.le_refl _) (.cells #[.bool true, .int .i64 0, .int .i64 (n : Int), .slice A' n c'] 37)))
        have KR4 := Lib.hid (KR2.out.below hb4)
        have hrow4 := e4.row i hi
        rw [HG.out.1, HG.out.2.1, HG.out.2.2] at hrow4
        obtain ⟨m, hm⟩ : ∃ m, gs.length - n = m := ⟨_, rfl⟩
        have hd := delete_any _ B (some ⟨g, off, none⟩) gs.length rcc n gs hrow4 hn HLL.out
        rw [hm] at hd
        have HD := Lib.hid hd
        have HM := Lib.hid hm
        clear hm hd
        have e3 := HE2.out.below hb3'
        have u3 := e3.k2 hi
        rw [HG.out.1, HG.out.2.1, HG.out.2.2] at u3
        have lw3 := e3.lts.2.2.2
        have f3 := e3.fr (i := i * 3 + 2) (by omega)
        have HE4 := Lib.hid e4
        have HB4 := Lib.hid hb4
        have hAl := Lib.hid (fun a ha => ho3.lt a ha)
        clear e3 e4 hb4 hrow4 ho3 hb3 hb3'
        go_wp2_with fail
        with_reducible refine HD.out.mono ?_
        rintro e w5 ⟨rfl, ho5, hf5⟩
        have hS : ∀ y ∈ thX ((some ⟨g, off, none⟩)), ∃ a, rA i = some a ∧ a.block = y := by rw [HG.out.2.1]; exact thX_mem
        have hwbn : wb ∉ thX (some ⟨g, off, none⟩) := fun hm => by obtain ⟨a, e1, e2⟩ := hS _ hm; exact HE4.out.rX i hi a e1 (by simp [e2])
        have lw4 := HE4.out.lts.2.2.2
        have u5 := (hf5.cell (p := ⟨wb, i * 3 + 2, none⟩) lw4 hwbn).trans (HE4.out.k2 hi)
        have f5 := (hf5.frozen (p := ⟨wb, i * 3 + 2, none⟩) lw4 hwbn).trans (HE4.out.fr (i := i * 3 + 2) (by omega))
        have lw5 : wb < w5.heap.size := Nat.lt_of_lt_of_le lw4 hf5.size
        have hfrR := HE4.out.frR hi hf5 hS
        have hx2 : w3.heap.size ∈ w3.heap.size :: (thX A' ++ (w.heap.size :: X)) := by simp
        have hx1 : w.heap.size ∈ w3.heap.size :: (thX A' ++ (w.heap.size :: X)) := by simp
        have kr2 := hfrR.blk HKR2.out (.inr hx2)
        have kr1 := hfrR.blk KR4.out (.inr hx1)
        have o5 := HO4.out.frx hfrR (fun y hy => by simp [hy])
        have v0 := kr2.cell 0 _ rfl
        have v1 := kr2.cell 1 _ rfl
        have v2 := kr2.cell 2 _ rfl
        have v3 := kr2.cell 3 _ rfl
        have vl := kr2.lt
        have z0 := kr1.cell 0 _ rfl
        have z1 := kr1.cell 1 _ rfl
        have z2 := kr1.cell 2 _ rfl
        have z3 := kr1.cell 3 _ rfl
        have y0 := kr1.froz 0 (by simp)
        have y1 := kr1.froz 1 (by simp)
        have y2 := kr1.froz 2 (by simp)
        have y3 := kr1.froz 3 (by simp)
        have zl := kr1.lt
        have hn2 : w3.heap.size ≠ wb := fun e => HE4.out.nX _ hx2 (by simp [e])
        have hn1 : w.heap.size ≠ wb := fun e => HE4.out.nX _ hx1 (by simp [e])
        have hn12 : w3.heap.size ≠ w.heap.size := by omega
        have hlen : (gs.drop n).length = m := by rw [List.length_drop]; exact HM.out
        have hz := HE4.out.setRow hi hf5 hS (A := some ⟨g, off, none⟩) (c := rcc) (gs := gs.drop n) (fun a e => .inl ⟨a, HG.out.2.1.trans e, rfl⟩) (by rw [hlen]; exact ho5)
        rw [hlen] at hz
        have hw6 : Off [wb] w5 (w5.setCell ⟨wb, i * 3 + 2, none⟩ (.slice (some ⟨g, off, none⟩) m rcc)) := (Off.refl _ _).setCell (by simp) _
        have hfr6 := HE4.out.frwb hw6
        have kr1' := hfr6.blk kr1 (.inr hx1)
        have o6 := o5.frx hfr6 (fun y hy => by simp [hy])
        have hXs : ∀ y ∈ X, y ∈ w3.heap.size :: (thX A' ++ (w.heap.size :: X)) := fun y hy => by simp [hy]
        have hfr := (((FrX.of_below HB0.out).trans (H.out.fr1b HF2.out)).trans (FrX.of_below HB4.out)).trans ((hfrR.weak hXs).trans (hfr6.weak hXs))
        have HALL := Lib.hid (And.intro hz (And.intro hfr (And.intro o6 kr1')))
        clear hz hfr o6 kr1' hw6 hfr6 hfrR kr2 kr1 o5 hwbn ho5 hf5 lw4 hx2 hx1 HD HTH
        go_wp2
        obtain ⟨e6, hfr, o6, kr6⟩ := HALL.out
        have kf := kr6.put4 (.bool true) (.int .i64 0) (.int .i64 (n : Int)) (.slice A' n c')
        have q0 := kf.cell 0 _ rfl
        have q1 := kf.cell 1 _ rfl
        have q2 := kf.cell 2 _ rfl
        have q3 := kf.cell 3 _ rfl
        have hthl : ((gs.take n).map (·.1)).length = n := by rw [List.length_map, htk]
        refine bodyPost_ret (v := .tuple #[.agg #[.bool true, .int .i64 0, .int .i64 (n : Int), .slice A' n c'], .nilFunc]) ?_ ?_ ?_
        · simp [results, Try.results106, go_sem, q0, q1, q2, q3]
        · rfl
        · rw [HEE.out, HG.out.1, HN.out]
          have hc5 : ClV (w5.setCell ⟨wb, i * 3 + 2, none⟩ (.slice (some ⟨g, off, none⟩) m rcc)) (QE x b bw wb W (w3.heap.size :: (thX A' ++ (w.heap.size :: X))) (updF rA i (some ⟨g, off, none⟩))) (capsE x i .none) .nilFunc := rfl
          refine ClR.finT (A := A') (c := c') (f := .nilFunc) (y := .none) H.out.le_ H.out.hX e6 (fun y hy => ?_) hc5 hfr _ _ _ _ ?_ ?_ ?_
          · rcases List.mem_cons.1 hy with e | e
            · subst e; simp
            · rcases List.mem_append.1 e with e | e <;> simp [e]
          · simp only [hthl]; exact o6.lower (by have := HB4.out.size; have := hs2; show w.heap.size ≤ w2.heap.size; omega)
          · intro hm
            obtain ⟨a, e1, e2⟩ := thX_mem _ hm
            have h1 := (hAl.out a e1).1
            have h2 : w2.heap.size ≤ a.block := h1
            omega
          · simp only [RsV, hthl]; rfl
      · have hd2 : ye + 2 ≤ E := by simpa using hd
        have hd3 : decide ((ye : Int) ≤ (E : Int) - 2) = true := by simp; omega
        clear hd
        go_wp2
        go_roundw
        case rel => exact ⟨n + 1, by omega, by go_num, by first | trivial | rfl, fun j hj => by
          rcases Nat.lt_or_ge j n with h | h
          · exact HOLD.out j h
          · obtain rfl : j = n := by omega
            rw [HY.out]; exact hd2⟩
        case measure => first | (simp [intOf]; done) | (simp [intOf]; omega)
    · have hng : gs.length ≤ n := hge
      have HN : Hid (oldN E gs = n) := Lib.hid (oldN_eq hn HOLD.out (fun h => by omega))
      have j3 : ¬ (n : Int) < (gs.length : Int) := by omega
      have HN2 : n ≤ 4096 := by omega
      have htk : (gs.take n).length = n := by rw [List.length_take]; omega
      have HTH := Lib.hid (things2_any w2.drew w2.heap.size A n rcc (gs.take n) (by rw [← GVs_take]; exact (HROW.out.arg.to_ (m := n) (by omega)).drewN 1) (Nat.le_refl _) HN2)
      go_wp2_with fail
      with_reducible refine HTH.out.mono ?_
      rintro e w3 ⟨A', c', rfl, ho3, hb3⟩
      have hb3' : Below w2.heap.size w2 w3 := (show Below w2.heap.size w2 w2.drew from (Below.refl _ _).drew).trans hb3
      have hs3 := hb3'.size
      have hb4 : Below w2.heap.size w2 (w3.alloc (.cells #[.bool true, .int .i64 0, .int .i64 (n : Int), .slice A' n c'] 37)) := hb3'.alloc hs3 _
      have e4 := HE2.out.reX (X' := w3.heap.size :: (thX A' ++ (w.heap.size :: X))) hb4 (fun y hy => by
        rcases List.mem_cons.1 hy with e | e
        · subst e; exact .inr ⟨hs3, by simp⟩
        · rcases List.mem_append.1 e with e | e
          · obtain ⟨a, e1, rfl⟩ := thX_mem _ e
            have := ho3.lt a e1
            exact .inr ⟨this.1, by simp; omega⟩
          · exact .inl e)
      have HKR2 := Lib.hid (BlkL.new w3 [.bool true, .int .i64 0, .int .i64 (n : Int), .slice A' n c'] 37)
      have HO4 := Lib.hid (ho3.below ((Below.refl w3.heap.size w3).alloc (Nat.le_refl _) (.cells #[.bool true, .int .i64 0, .int .i64 (n : Int), .slice A' n c'] 37)))
      have KR4 := Lib.hid (KR2.out.below hb4)
      have hrow4 := e4.row i hi
      rw [HG.out.1, HG.out.2.1, HG.out.2.2] at hrow4
      obtain ⟨m, hm⟩ : ∃ m, gs.length - n = m := ⟨_, rfl⟩
      have hd := delete_any _ B A gs.length rcc n gs hrow4 hn HLL.out
      rw [hm] at hd
      have HD := Lib.hid hd
      have HM := Lib.hid hm
      clear hm hd
      have e3 := HE2.out.below hb3'
      have u3 := e3.k2 hi
      rw [HG.out.1, HG.out.2.1, HG.out.2.2] at u3
      have lw3 := e3.lts.2.2.2
      have f3 := e3.fr (i := i * 3 + 2) (by omega)
      have HE4 := Lib.hid e4
      have HB4 := Lib.hid hb4
      have hAl := Lib.hid (fun a ha => ho3.lt a ha)
      clear e3 e4 hb4 hrow4 ho3 hb3 hb3'
      go_wp2_with fail
      with_reducible refine HD.out.mono ?_
      rintro e w5 ⟨rfl, ho5, hf5⟩
      have hS : ∀ y ∈ thX (A), ∃ a, rA i = some a ∧ a.block = y := by rw [HG.out.2.1]; exact thX_mem
      have hwbn : wb ∉ thX (A) := fun hm => by obtain ⟨a, e1, e2⟩ := hS _ hm; exact HE4.out.rX i hi a e1 (by simp [e2])
      have lw4 := HE4.out.lts.2.2.2
      have u5 := (hf5.cell (p := ⟨wb, i * 3 + 2, none⟩) lw4 hwbn).trans (HE4.out.k2 hi)
      have f5 := (hf5.frozen (p := ⟨wb, i * 3 + 2, none⟩) lw4 hwbn).trans (HE4.out.fr (i := i * 3 + 2) (by omega))
      have lw5 : wb < w5.heap.size := Nat.lt_of_lt_of_le lw4 hf5.size
      have hfrR := HE4.out.frR hi hf5 hS
      have hx2 : w3.heap.size ∈ w3.heap.size :: (thX A' ++ (w.heap.size :: X)) := by simp
      have hx1 : w.heap.size ∈ w3.heap.size :: (thX A' ++ (w.heap.size :: X)) := by simp
      have kr2 := hfrR.blk HKR2.out (.inr hx2)
      have kr1 := hfrR.blk KR4.out (.inr hx1)
      have o5 := HO4.out.frx hfrR (fun y hy => by simp [hy])
      have v0 := kr2.cell 0 _ rfl
      have v1 := kr2.cell 1 _ rfl
      have v2 := kr2.cell 2 _ rfl
      have v3 := kr2.cell 3 _ rfl
      have vl := kr2.lt
      have z0 := kr1.cell 0 _ rfl
      have z1 := kr1.cell 1 _ rfl
      have z2 := kr1.cell 2 _ rfl
      have z3 := kr1.cell 3 _ rfl
      have y0 := kr1.froz 0 (by simp)
      have y1 := kr1.froz 1 (by simp)
      have y2 := kr1.froz 2 (by simp)
      have y3 := kr1.froz 3 (by simp)
      have zl := kr1.lt
      have hn2 : w3.heap.size ≠ wb := fun e => HE4.out.nX _ hx2 (by simp [e])
      have hn1 : w.heap.size ≠ wb := fun e => HE4.out.nX _ hx1 (by simp [e])
      have hn12 : w3.heap.size ≠ w.heap.size := by omega
      have hlen : (gs.drop n).length = m := by rw [List.length_drop]; exact HM.out
      have hz := HE4.out.setRow hi hf5 hS (A := A) (c := rcc) (gs := gs.drop n) (fun a e => .inl ⟨a, HG.out.2.1.trans e, rfl⟩) (by rw [hlen]; exact ho5)
      rw [hlen] at hz
      have hw6 : Off [wb] w5 (w5.setCell ⟨wb, i * 3 + 2, none⟩ (.slice (A) m rcc)) := (Off.refl _ _).setCell (by simp) _
      have hfr6 := HE4.out.frwb hw6
      have kr1' := hfr6.blk kr1 (.inr hx1)
      have o6 := o5.frx hfr6 (fun y hy => by simp [hy])
      have hXs : ∀ y ∈ X, y ∈ w3.heap.size :: (thX A' ++ (w.heap.size :: X)) := fun y hy => by simp [hy]
      have hfr := (((FrX.of_below HB0.out).trans (H.out.fr1b HF2.out)).trans (FrX.of_below HB4.out)).trans ((hfrR.weak hXs).trans (hfr6.weak hXs))
      have HALL := Lib.hid (And.intro hz (And.intro hfr (And.intro o6 kr1')))
      clear hz hfr o6 kr1' hw6 hfr6 hfrR kr2 kr1 o5 hwbn ho5 hf5 lw4 hx2 hx1 HD HTH
      go_wp2
      obtain ⟨e6, hfr, o6, kr6⟩ := HALL.out
      have kf := kr6.put4 (.bool true) (.int .i64 0) (.int .i64 (n : Int)) (.slice A' n c')
      have q0 := kf.cell 0 _ rfl
      have q1 := kf.cell 1 _ rfl
      have q2 := kf.cell 2 _ rfl
      have q3 := kf.cell 3 _ rfl
      have hthl : ((gs.take n).map (·.1)).length = n := by rw [List.length_map, htk]
      refine bodyPost_ret (v := .tuple #[.agg #[.bool true, .int .i64 0, .int .i64 (n : Int), .slice A' n c'], .nilFunc]) ?_ ?_ ?_
      · simp [results, Try.results106, go_sem, q0, q1, q2, q3]
      · rfl
      · rw [HEE.out, HG.out.1, HN.out]
        have hc5 : ClV (w5.setCell ⟨wb, i * 3 + 2, none⟩ (.slice (A) m rcc)) (QE x b bw wb W (w3.heap.size :: (thX A' ++ (w.heap.size :: X))) (updF rA i (A))) (capsE x i .none) .nilFunc := rfl
        refine ClR.finT (A := A') (c := c') (f := .nilFunc) (y := .none) H.out.le_ H.out.hX e6 (fun y hy => ?_) hc5 hfr _ _ _ _ ?_ ?_ ?_
        · rcases List.mem_cons.1 hy with e | e
          · subst e; simp
          · rcases List.mem_append.1 e with e | e <;> simp [e]
        · simp only [hthl]; exact o6.lower (by have := HB4.out.size; have := hs2; show w.heap.size ≤ w2.heap.size; omega)
        · intro hm
          obtain ⟨a, e1, e2⟩ := thX_mem _ hm
          have h1 := (hAl.out a e1).1
          have h2 : w2.heap.size ≤ a.block := h1
          omega
        · simp only [RsV, hthl]; rfl

end
end Go.Proofs.Ytpjgpiiibgogeaa
