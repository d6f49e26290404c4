/- What is asked is read again; used; the law WireRequests: its walk. -/
import Derived.Test.YtlkkldegbopnpaaWrT
import Derived.Deep.RegionWith

/- What is asked is read again; used. -/
namespace Go.Proofs.Ytlkkldegbopnpaa
open Go.RowKit
set_option maxRecDepth 100000
set_option linter.unusedVariables false
set_option maxHeartbeats 400000

/-- The fields alone that a call's form has. -/
def usedV (x : ClV) : ClV := if 4 < x.o then ⟨x.o, 0, 0, []⟩ else if x.o = 2 ∨ x.o = 4 then ⟨x.o, x.p, 0, x.ks⟩ else x
theorem rqC_ways {o : Nat} {p s : Int} {n : Nat} (h : rqC o p s n = 0) : (o = 5 ∨ o = 6) ∨ (polB p = true ∧ n ≤ 255 ∧ ((o = 1 ∧ tkB s = true) ∨ o = 2 ∨ (o = 3 ∧ serB s = true) ∨ o = 4)) := by
  unfold rqC at h
  split at h
  · rename_i g; exact .inl g
  split at h
  · simp at h
  split at h
  · simp at h
  split at h
  · simp at h
  rename_i g0 g1 g2 g3
  refine .inr ⟨?_, by omega, ?_⟩
  · cases hp : polB p
    · exact absurd (.inl hp) g2
    · rfl
  · rcases (by omega : o = 1 ∨ o = 2 ∨ o = 3 ∨ o = 4) with rfl | rfl | rfl | rfl
    · refine .inl ⟨rfl, ?_⟩
      cases hs : tkB s
      · exact absurd (.inr (.inl ⟨rfl, hs⟩)) g2
      · rfl
    · exact .inr (.inl rfl)
    · refine .inr (.inr (.inl ⟨rfl, ?_⟩))
      cases hs : serB s
      · exact absurd (.inr (.inr ⟨rfl, hs⟩)) g2
      · rfl
    · exact .inr (.inr (.inr rfl))
theorem rqB_max {o : Nat} {p s : Int} {zs : List Nat} (h : rqC o p s zs.length = 0) : (rqB o p s zs).length ≤ 4096 := by
  rcases rqC_ways h with (rfl | rfl) | ⟨_, hn, _⟩
  · simp [rqB]
  · simp [rqB]
  · unfold rqB
    split
    · simp [Tk.wordV_len]; omega
    split
    · simp [tokV_len]; omega
    split
    · simp; omega
    · simp
theorem toldV_self {o : Nat} {p s : Int} {ks : List Nat} (h : rqC o p s ks.length = 0) : toldV (rqB o p s ks) = some (usedV ⟨o, p, s, ks⟩) := by
  rcases rqC_ways h with (rfl | rfl) | ⟨hp, hn, ho⟩
  · rfl
  · rfl
  have hpp := polB_true hp
  obtain ⟨P, rfl⟩ : ∃ q : Nat, p = (q : Int) := ⟨p.toNat, by omega⟩
  rcases ho with ⟨rfl, hs⟩ | rfl | ⟨rfl, hs⟩ | rfl
  · have hss := tkB_true hs
    obtain ⟨S, rfl⟩ : ∃ q : Nat, s = (q : Int) := ⟨s.toNat, by omega⟩
    have e : rqB 1 (P : Int) (S : Int) ks = 1 :: P :: ks.length :: (ks ++ Tk.wordV S 8) := by simp [rqB]
    have e1 : (1 :: P :: ks.length :: (ks ++ Tk.wordV S 8)).drop 1 = P :: ks.length :: (ks ++ Tk.wordV S 8) := rfl
    have e2 : (P :: ks.length :: (ks ++ Tk.wordV S 8)).drop (2 + ks.length) = Tk.wordV S 8 := by
      rw [← List.drop_drop]
      show List.drop ks.length (ks ++ Tk.wordV S 8) = _
      rw [List.drop_left]
    have e3 : ((P :: ks.length :: (ks ++ Tk.wordV S 8)).drop 2).take ks.length = ks := by
      show List.take ks.length (ks ++ Tk.wordV S 8) = _
      rw [List.take_left]
    rw [e]
    unfold toldV
    rw [e1]
    simp only [List.length_cons, List.length_append, Tk.wordV_len, List.getD_cons_zero, List.getD_cons_succ, if_true]
    rw [if_neg (by omega), if_neg (by omega), e2, e3, List.take_of_length_le (by rw [Tk.wordV_len]; omega), Tk.numV_wordV, Nat.mod_eq_of_lt (by omega), IntWalk.i64_in _ (by omega)]
    simp [usedV]
  · have e : rqB 2 (P : Int) s ks = 2 :: P :: ks.length :: ks := by simp [rqB]
    have e1 : (2 :: P :: ks.length :: ks).drop 1 = P :: ks.length :: ks := rfl
    have e3 : ((P :: ks.length :: ks).drop 2).take ks.length = ks := by
      show List.take ks.length ks = _
      simp
    rw [e]
    unfold toldV
    rw [e1]
    simp only [List.length_cons, List.getD_cons_zero, List.getD_cons_succ]
    rw [if_neg (by omega), if_neg (by omega), if_pos (by simp), if_neg (by omega), e3]
    simp [usedV]
  · have hss := serB_true hs
    obtain ⟨S, rfl⟩ : ∃ q : Nat, s = (q : Int) := ⟨s.toNat, by omega⟩
    have e : rqB 3 (P : Int) (S : Int) ks = 3 :: tokV P ks S := by simp [rqB]
    have e1 : (3 :: tokV P ks S).drop 1 = tokV P ks S := rfl
    rw [e]
    unfold toldV
    rw [e1]
    simp only [List.length_cons, List.getD_cons_zero]
    rw [if_neg (by omega), if_neg (by omega), if_neg (by omega), if_pos trivial, if_pos (tokV_ok P ks S (by omega) (by omega) (by omega)), tokV_2, tokV_ser _ _ _ (by omega), tokV_key]
    simp [usedV]
  · have e : rqB 4 (P : Int) s ks = 4 :: P :: ks.length :: ks := by simp [rqB]
    have e1 : (4 :: P :: ks.length :: ks).drop 1 = P :: ks.length :: ks := rfl
    have e3 : ((P :: ks.length :: ks).drop 2).take ks.length = ks := by
      show List.take ks.length ks = _
      simp
    rw [e]
    unfold toldV
    rw [e1]
    simp only [List.length_cons, List.getD_cons_zero, List.getD_cons_succ]
    rw [if_neg (by omega), if_neg (by omega), if_pos (by simp), if_neg (by omega), e3]
    simp [usedV]
theorem used_1 (o : Nat) (p s : Int) (ks : List Nat) (h : o = 1 ∨ o = 3) : usedV ⟨o, p, s, ks⟩ = ⟨o, p, s, ks⟩ := by
  unfold usedV
  dsimp only
  rw [if_neg (by omega), if_neg (by omega)]
theorem used_2 (o : Nat) (p s : Int) (ks : List Nat) (h : o = 2 ∨ o = 4) : usedV ⟨o, p, s, ks⟩ = ⟨o, p, 0, ks⟩ := by
  unfold usedV
  dsimp only
  rw [if_neg (by omega), if_pos h]
theorem used_5 (o : Nat) (p s : Int) (ks : List Nat) (h : 4 < o) : usedV ⟨o, p, s, ks⟩ = ⟨o, 0, 0, []⟩ := by
  unfold usedV
  dsimp only
  rw [if_pos h]
theorem rqC_used {o : Nat} {p s : Int} {ks : List Nat} (h : rqC o p s ks.length = 0) : rqC (usedV ⟨o, p, s, ks⟩).o (usedV ⟨o, p, s, ks⟩).p (usedV ⟨o, p, s, ks⟩).s (usedV ⟨o, p, s, ks⟩).ks.length = 0 ∧ rqB (usedV ⟨o, p, s, ks⟩).o (usedV ⟨o, p, s, ks⟩).p (usedV ⟨o, p, s, ks⟩).s (usedV ⟨o, p, s, ks⟩).ks = rqB o p s ks := by
  rcases rqC_ways h with ho | ⟨hp, hn, ho⟩
  · rw [used_5 o p s ks (by omega)]
    dsimp only
    refine ⟨by unfold rqC; rw [if_pos ho], ?_⟩
    unfold rqB
    rw [if_neg (by omega), if_neg (by omega), if_neg (by omega), if_neg (by omega), if_neg (by omega), if_neg (by omega)]
  by_cases h1 : o = 1 ∨ o = 3
  · rw [used_1 o p s ks h1]
    dsimp only
    exact ⟨h, by with_reducible rfl⟩
  · have h2 : o = 2 ∨ o = 4 := by omega
    rw [used_2 o p s ks h2]
    dsimp only
    refine ⟨?_, ?_⟩
    · unfold rqC
      rw [if_neg (by omega), if_neg (by omega), if_neg ?_, if_neg (by omega)]
      rw [hp]
      rintro (g | ⟨g, _⟩ | ⟨g, _⟩)
      · simp at g
      · omega
      · omega
    · unfold rqB
      rw [if_neg (by omega), if_neg (by omega), if_pos h2, if_neg (by omega), if_neg (by omega)]
theorem rqV_self {o : Nat} {p s : Int} {ks : List Nat} (h : rqC o p s ks.length = 0) : rqV (rqB o p s ks) = (usedV ⟨o, p, s, ks⟩, 0) := by
  unfold rqV
  rw [if_neg (by have := rqB_max h; omega), toldV_self h]
  show (if _ then _ else _) = _
  rw [if_pos (rqC_used h)]

end Go.Proofs.Ytlkkldegbopnpaa


/- Contract: used. -/
namespace Go.Proofs.Ytlkkldegbopnpaa
open Go.RowKit
set_option maxRecDepth 100000
set_option linter.unusedVariables false
set_option maxHeartbeats 400000

/-- What used answers. -/
def UsE (w : World) (x : ClV) (B : Nat) (e : Ending) (w' : World) : Prop :=
  ∃ UA un uc, e = .returned (ClA (usedV x).o (usedV x).p UA un uc (usedV x).s) ∧ Arg w' B UA un uc (usedV x).ks ∧ Below w.heap.size w w'
theorem us_ret {w wf : World} {x : ClV} {B : Nat} {o : Nat} {p s : Int} {UA : Option Addr} {un uc : Nat} {ks : List Nat} (hx : usedV x = ⟨o, p, s, ks⟩) (tmps : Array Value) (hb : BlkL wf (w.heap.size + 1) (clB o p UA un uc s)) (t2 : tmps[2]? = some (.pointer (some ⟨w.heap.size + 1, 0, none⟩)))
    (ha : Arg wf B UA un uc ks) (ho : Below w.heap.size w wf) : bodyPost Try.prog Try.f44 (UsE w x B) Exit.ret { tmps := tmps, defers := [] } wf := by
  have c0 := hb.cell 0 _ rfl
  have c1 := hb.cell 1 _ rfl
  have c2 := hb.cell 2 _ rfl
  have c3 := hb.cell 3 _ rfl
  exact bodyPost_ret (v := ClA o p UA un uc s) (by simp [results, Try.results44, go_sem, t2, c0, c1, c2, c3]) rfl ⟨UA, un, uc, by rw [hx], by rw [hx]; exact ha, ho⟩
abbrev usW (w : World) (o p : Int) (A : Option Addr) (n c : Nat) (s : Int) (o' p' : Int) (A' : Option Addr) (n' c' : Nat) (s' : Int) : World := (clW w o p A n c s).alloc (.cells #[.int .u8 o', .int .i64 p', .slice A' n' c', .int .i64 s'] 71)
theorem usW_b (w : World) (o p : Int) (A : Option Addr) (n c : Nat) (s : Int) (o' p' : Int) (A' : Option Addr) (n' c' : Nat) (s' : Int) : Below w.heap.size w (usW w o p A n c s o' p' A' n' c' s') := (clBl w o p A n c s).alloc (by simp) _
theorem usW_k (w : World) (o p : Int) (A : Option Addr) (n c : Nat) (s : Int) (o' p' : Int) (A' : Option Addr) (n' c' : Nat) (s' : Int) : BlkL (usW w o p A n c s o' p' A' n' c' s') (w.heap.size + 1) (clB o' p' A' n' c' s') := by
  have := clK (clW w o p A n c s) o' p' A' n' c' s'
  rwa [show (clW w o p A n c s).heap.size = w.heap.size + 1 by simp] at this
theorem used_any (w : World) (B o : Nat) (p s : Int) (A : Option Addr) (n c : Nat) (ks : List Nat) (h : Arg w B A n c ks) (hB : B ≤ w.heap.size) : Calls Try.prog 44 #[ClA o p A n c s] w (UsE w ⟨o, p, s, ks⟩ B) := by
  have HA := Lib.hid h
  have HB := Lib.hid hB
  have K := (clK w o p A n c s).alloc (.cells #[.int .u8 0, .int .i64 0, .slice none 0 0, .int .i64 0] 71)
  have c0 := K.cell 0 _ rfl
  have c1 := K.cell 1 _ rfl
  have c2 := K.cell 2 _ rfl
  have c3 := K.cell 3 _ rfl
  have f3 := K.froz 3 (by simp)
  have l0 := K.lt
  clear K h hB
  by_cases h4 : 4 < o
  · have d1 : decide ((4 : Int) < (o : Int)) = true := by simp; omega
    have HX : Hid (usedV ⟨o, p, s, ks⟩ = ⟨o, 0, 0, []⟩) := Lib.hid (used_5 o p s ks h4)
    go_enter Try.func44, Try.ntmps44
    go_wp2
    exact us_ret HX.out _ (usW_k w o p A n c s o 0 none 0 0 0) rfl (Arg.nil _ _) (usW_b w o p A n c s o 0 none 0 0 0)
  · have d1 : decide ((4 : Int) < (o : Int)) = false := by simp; omega
    by_cases h2 : o = 2 ∨ o = 4
    · have HX : Hid (usedV ⟨o, p, s, ks⟩ = ⟨o, p, 0, ks⟩) := Lib.hid (used_2 o p s ks h2)
      rcases h2 with rfl | rfl
      · go_enter Try.func44, Try.ntmps44
        go_wp2_with fail
        exact us_ret (x := ⟨2, p, s, ks⟩) HX.out _ (usW_k w 2 p A n c 0 2 p A n c 0) rfl (HA.out.below ((usW_b w 2 p A n c 0 2 p A n c 0).mono HB.out)) (usW_b w 2 p A n c 0 2 p A n c 0)
      · go_enter Try.func44, Try.ntmps44
        go_wp2_with fail
        exact us_ret (x := ⟨4, p, s, ks⟩) HX.out _ (usW_k w 4 p A n c 0 4 p A n c 0) rfl (HA.out.below ((usW_b w 4 p A n c 0 4 p A n c 0).mono HB.out)) (usW_b w 4 p A n c 0 4 p A n c 0)
    · have HX : Hid (usedV ⟨o, p, s, ks⟩ = ⟨o, p, s, ks⟩) := Lib.hid (by unfold usedV; dsimp only; rw [if_neg h4, if_neg h2])
      have e2 : ((o : Int) == 2) = false := by simp; omega
      have e4 : ((o : Int) == 4) = false := by simp; omega
      go_enter Try.func44, Try.ntmps44
      go_wp2
      exact us_ret HX.out _ (usW_k w o p A n c s o p A n c s) rfl (HA.out.below ((usW_b w o p A n c s o p A n c s).mono HB.out)) (usW_b w o p A n c s o p A n c s)
end Go.Proofs.Ytlkkldegbopnpaa


/- The law WireRequests: its walk. -/
namespace Go.Proofs.Ytlkkldegbopnpaa
open Go.RowKit
set_option maxRecDepth 100000
set_option linter.unusedVariables false

/-- The bytes of a call, none where it is wrong. -/
def rqL (o : Nat) (p s : Int) (ks : List Nat) : List Nat := if rqC o p s ks.length = 0 then rqB o p s ks else []
theorem request_l (w : World) (B o : Nat) (p s : Int) (A : Option Addr) (n c : Nat) (zs : List Nat) (h : Arg w B A n c zs) (hB : B ≤ w.heap.size) (f : Int) (hf : rqC o p s zs.length = f) : Calls Try.prog 40 #[ClA o p A n c s] w fun e w' =>
    ∃ XA xc, e = .returned (.tuple #[.slice XA (rqL o p s zs).length xc, .int .i64 f]) ∧ Arg w' w'.heap.size XA (rqL o p s zs).length xc (rqL o p s zs) ∧ Below w.heap.size w w' := by
  subst hf
  refine (request_any w B o p s A n c zs h hB).mono ?_
  rintro e w' ⟨XA, xn, xc, he, ha, hb⟩
  have ha' : Arg w' w'.heap.size XA xn xc (rqL o p s zs) := ha
  have hl := ha'.len
  subst hl
  exact ⟨XA, xc, he, ha', hb⟩
theorem docRequest_l (w : World) (B o : Nat) (p s : Int) (A : Option Addr) (n c : Nat) (zs : List Nat) (h : Arg w B A n c zs) (hB : B ≤ w.heap.size) (f : Int) (hf : rqC o p s zs.length = f) : Calls Try.prog 41 #[ClA o p A n c s] w fun e w' =>
    ∃ XA xc, e = .returned (.tuple #[.slice XA (rqL o p s zs).length xc, .int .i64 f]) ∧ Arg w' w'.heap.size XA (rqL o p s zs).length xc (rqL o p s zs) ∧ Below w.heap.size w w' := by
  subst hf
  refine (docRequest_any w B o p s A n c zs h hB).mono ?_
  rintro e w' ⟨XA, xn, xc, he, ha, hb⟩
  have ha' : Arg w' w'.heap.size XA xn xc (rqL o p s zs) := ha
  have hl := ha'.len
  subst hl
  exact ⟨XA, xc, he, ha', hb⟩
set_option maxHeartbeats 3200000 in
theorem wireRequests_walk (o : Nat) (p : Int) (A : Option Addr) (n c : Nat) (ks : List Nat) (s : Int) (w : World) (ob : o < 256) (h : Arg w w.heap.size A n c ks) (hsz : c ≤ 140737488351232) :
    Calls Try.prog 11 #[.agg #[.int .u8 (o : Int), .int .i64 p, .slice A n c, .int .i64 s]] w fun e w' => e = .returned (.bool true) ∧ Below w.heap.size w w' := by
  have hle := h.le
  have HSZ : Hid (n ≤ 140737488355325) := Lib.hid (by omega)
  obtain ⟨f, hf⟩ : ∃ f, rqC o p s ks.length = f := ⟨_, rfl⟩
  have HFC := Lib.hid hf
  obtain ⟨L, hL⟩ : ∃ L, rqL o p s ks = L := ⟨_, rfl⟩
  have HL := Lib.hid hL
  have B0 := Lib.hid (clBl w o p A n c s)
  have K0 := Lib.hid (clK w o p A n c s)
  have HA := Lib.hid h
  clear h hsz hle hf hL
  go_enter Try.func11, Try.ntmps11
  go_wp2_with (with_reducible refine (awake21_any _).mono ?_)
  rintro e w1 ⟨rfl, hb1⟩
  have hb1' := B0.out.trans (hb1.mono (by simp))
  have B1 := Lib.hid hb1'
  have k1 := K0.out.below hb1
  have K1 := Lib.hid k1
  have r0 := k1.cell 0 _ rfl
  have r1 := k1.cell 1 _ rfl
  have r2 := k1.cell 2 _ rfl
  have r3 := k1.cell 3 _ rfl
  have rl := k1.lt
  have A1 := Lib.hid ((HA.out.below hb1').more hb1'.size)
  clear hb1 hb1' k1 K0 B0
  have HC1 := Lib.hid (spare_any w1 A n c ks A1.out HSZ.out)
  go_wp2_with fail
  with_reducible refine (HC1.out).mono ?_
  rintro e w2 ⟨F, fd, rfl, ho2, hb2⟩
  have B2 := Lib.hid (B1.out.trans (hb2.mono B1.out.size))
  have k2 := K1.out.below hb2
  have HF2 := Lib.hid ho2.arg
  have A2 := Lib.hid ((A1.out.below hb2).more hb2.size)
  have bl : Below w2.heap.size w2 (w2.alloc (.cells #[.int .u8 (o : Int), .int .i64 p, .slice F n fd, .int .i64 s] 71)) := (Below.refl _ _).alloc (Nat.le_refl _) _
  have hx2 := ho2.arg.take (k := n) (by omega)
  rw [List.take_left' A1.out.len] at hx2
  have M3 : Hid (BlkL (w2.alloc (.cells #[.int .u8 (o : Int), .int .i64 p, .slice F n fd, .int .i64 s] 71)) w2.heap.size (clB o p F n fd s)) := Lib.hid (BlkL.new w2 _ _)
  have B3 := Lib.hid (B2.out.trans (bl.mono B2.out.size))
  have K3 := Lib.hid (k2.below bl)
  have HF3 := Lib.hid ((HF2.out.below bl).more bl.size)
  have A3 := Lib.hid ((A2.out.below bl).more bl.size)
  have HC2 := Lib.hid (request_l (w2.alloc (.cells #[.int .u8 (o : Int), .int .i64 p, .slice F n fd, .int .i64 s] 71)) _ o p s F n fd ks (hx2.below bl) bl.size f HFC.out)
  rw [HL.out] at HC2
  clear r0 r1 r2 r3 rl
  have r0 := k2.cell 0 _ rfl
  have r1 := k2.cell 1 _ rfl
  have r2 := k2.cell 2 _ rfl
  have r3 := k2.cell 3 _ rfl
  have rl := k2.lt
  clear ho2 hb2 k2 K1 B1 A1 HC1 B2 HF2 A2 bl hx2
  go_wp2_with fail
  with_reducible refine (HC2.out).mono ?_
  rintro e w4 ⟨XA, xc, rfl, ha4, hb4⟩
  have HX4 := Lib.hid ha4
  have B4 := Lib.hid (B3.out.trans (hb4.mono B3.out.size))
  have k4 := K3.out.below hb4
  have K4 := Lib.hid k4
  have HF4 := Lib.hid ((HF3.out.below hb4).more hb4.size)
  have A4 := Lib.hid ((A3.out.below hb4).more hb4.size)
  have HC3 := Lib.hid (docRequest_l w4 _ o p s A n c ks A4.out (Nat.le_refl _) f HFC.out)
  rw [HL.out] at HC3
  clear r0 r1 r2 r3 rl
  have r0 := k4.cell 0 _ rfl
  have r1 := k4.cell 1 _ rfl
  have r2 := k4.cell 2 _ rfl
  have r3 := k4.cell 3 _ rfl
  have rl := k4.lt
  clear ha4 hb4 k4 K3 B3 HF3 A3 HC2 M3
  go_wp2_with fail
  with_reducible refine (HC3.out).mono ?_
  rintro e w5 ⟨XB, xd, rfl, ha5, hb5⟩
  have HX5 := Lib.hid ((HX4.out.below hb5).more hb5.size)
  have B5 := Lib.hid (B4.out.trans (hb5.mono B4.out.size))
  have K5 := Lib.hid (K4.out.below hb5)
  have HF5 := Lib.hid ((HF4.out.below hb5).more hb5.size)
  have A5 := Lib.hid ((A4.out.below hb5).more hb5.size)
  have HS := Lib.hid (same_any w5 _ _ XA XB L.length xc L.length xd L L true (by simp) HX5.out ha5)
  clear r0 r1 r2 r3 rl ha5 hb5 K4 B4 HF4 A4 HC3 HX4
  go_wp2_with fail
  with_reducible refine (HS.out).mono ?_
  rintro e w6 ⟨rfl, t6, hw6⟩
  have hb6 : Below w5.heap.size w5 w6 := by rw [hw6]; exact below_drewN (Below.refl _ _) t6
  have HX6 := Lib.hid ((HX5.out.below hb6).more hb6.size)
  have B6 := Lib.hid (B5.out.trans (hb6.mono B5.out.size))
  have k6 := K5.out.below hb6
  have K6 := Lib.hid k6
  have HF6 := Lib.hid ((HF5.out.below hb6).more hb6.size)
  have A6 := Lib.hid ((A5.out.below hb6).more hb6.size)
  have HKP := Lib.hid (kept_any w6 _ _ F A n c fd ks HF6.out A6.out)
  have hff : (f != f) = false := by simp
  have r0 := k6.cell 0 _ rfl
  have r1 := k6.cell 1 _ rfl
  have r2 := k6.cell 2 _ rfl
  have r3 := k6.cell 3 _ rfl
  have rl := k6.lt
  clear hw6 hb6 k6 K5 B5 HF5 A5 HS HX5
  go_wp2_with fail
  with_reducible refine (HKP.out).mono ?_
  rintro e w7 ⟨rfl, t7, hw7⟩
  have hb7 : Below w6.heap.size w6 w7 := by rw [hw7]; exact below_drewN (Below.refl _ _) t7
  have HX7 := Lib.hid ((HX6.out.below hb7).more hb7.size)
  have B7 := Lib.hid (B6.out.trans (hb7.mono B6.out.size))
  have k7 := K6.out.below hb7
  have K7 := Lib.hid k7
  have A7 := Lib.hid ((A6.out.below hb7).more hb7.size)
  clear r0 r1 r2 r3 rl hff hw7 hb7 K6 B6 HF6 A6 HKP HX6
  by_cases hf0 : f = 0
  · subst hf0
    have hl2 : L = rqB o p s ks := by rw [← HL.out]; unfold rqL; rw [if_pos HFC.out]
    have HR : Hid (Calls Try.prog 42 #[.slice XA L.length xc] w7 (ClX w7 (usedV ⟨o, p, s, ks⟩, 0))) := by
      have := readRequest_any w7 XA L.length xc L HX7.out
      rw [hl2, rqV_self HFC.out, ← hl2] at this
      exact Lib.hid this
    have r0 := k7.cell 0 _ rfl
    have r1 := k7.cell 1 _ rfl
    have r2 := k7.cell 2 _ rfl
    have r3 := k7.cell 3 _ rfl
    have rl := k7.lt
    have HKY : Hid (∀ d ∈ (usedV ⟨o, p, s, ks⟩).ks, d < 256) := by
      refine Lib.hid fun d hd => ?_
      unfold usedV at hd
      split at hd
      · simp at hd
      split at hd
      · exact HA.out.byte d hd
      · exact HA.out.byte d hd
    clear k7 hl2
    go_wp2_with fail
    with_reducible refine (HR.out).mono ?_
    rintro e w8 ⟨KA, kc, rfl, hk8, hb8⟩
    obtain ⟨U, hU⟩ : ∃ U, usedV ⟨o, p, s, ks⟩ = U := ⟨_, rfl⟩
    have HU := Lib.hid hU
    dsimp only at hk8 ⊢
    rw [hU] at hk8 HKY ⊢
    obtain ⟨Uo, Up, Us, Uk⟩ := U
    dsimp only at hk8 HKY ⊢
    have bl : Below w8.heap.size w8 (w8.alloc (.cells #[.int .u8 (Uo : Int), .int .i64 Up, .slice KA Uk.length kc, .int .i64 Us] 71)).drew := ((Below.refl _ _).alloc (Nat.le_refl _) _).drew
    have b89 := hb8.trans (bl.mono hb8.size)
    have B9 := Lib.hid (B7.out.trans (b89.mono B7.out.size))
    have k9 := K7.out.below b89
    have d9 : BlkL (w8.alloc (.cells #[.int .u8 (Uo : Int), .int .i64 Up, .slice KA Uk.length kc, .int .i64 Us] 71)).drew w8.heap.size (clB Uo Up KA Uk.length kc Us) := (BlkL.new w8 _ _).drew
    have A9 := Lib.hid ((A7.out.below b89).more b89.size)
    have O9 := Lib.hid (hk8.below bl)
    have HCU : Hid (Calls Try.prog 44 #[ClA o p A n c s] (w8.alloc (.cells #[.int .u8 (Uo : Int), .int .i64 Up, .slice KA Uk.length kc, .int .i64 Us] 71)).drew (fun e w' => ∃ UA un uc, e = .returned (ClA Uo Up UA un uc Us) ∧ Arg w' (w8.alloc (.cells #[.int .u8 (Uo : Int), .int .i64 Up, .slice KA Uk.length kc, .int .i64 Us] 71)).drew.heap.size UA un uc Uk ∧ Below (w8.alloc (.cells #[.int .u8 (Uo : Int), .int .i64 Up, .slice KA Uk.length kc, .int .i64 Us] 71)).drew.heap.size (w8.alloc (.cells #[.int .u8 (Uo : Int), .int .i64 Up, .slice KA Uk.length kc, .int .i64 Us] 71)).drew w')) := by
      have := used_any (w8.alloc (.cells #[.int .u8 (Uo : Int), .int .i64 Up, .slice KA Uk.length kc, .int .i64 Us] 71)).drew _ o p s A n c ks A9.out (Nat.le_refl _)
      unfold UsE at this
      rw [HU.out] at this
      exact Lib.hid this
    have D9 := Lib.hid d9
    clear hU r0 r1 r2 r3 rl
    have r0 := k9.cell 0 _ rfl
    have r1 := k9.cell 1 _ rfl
    have r2 := k9.cell 2 _ rfl
    have r3 := k9.cell 3 _ rfl
    have rl := k9.lt
    have d0 := d9.cell 0 _ rfl
    have d1 := d9.cell 1 _ rfl
    have d2 := d9.cell 2 _ rfl
    have d3 := d9.cell 3 _ rfl
    have dl := d9.lt
    clear k9 d9 bl b89 hb8 hk8 HR
    go_wp2
    generalize hwA : (w8.alloc (.cells #[.int .u8 (Uo : Int), .int .i64 Up, .slice KA Uk.length kc, .int .i64 Us] 71)) = wA at *
    have HSQ : Hid (∀ (wu : World) (UA : Option Addr) (un uc : Nat), Arg wu wu.heap.size UA un uc Uk → OwnV wu w7.heap.size KA Uk.length kc (Uk.map V8) → Below w.heap.size w wu →
        Calls Try.prog 43 #[ClA Uo Up KA Uk.length kc Us, ClA Uo Up UA un uc Us] wu fun e w' => e = .returned (.bool true) ∧ Below w.heap.size w w') := by
      refine Lib.hid fun wu UA un uc hu ho hb => ?_
      refine (same21_any wu _ _ KA UA Uk.length kc un uc ⟨Uo, Up, Us, Uk⟩ ⟨Uo, Up, Us, Uk⟩ true ((eqC_iff _ _).2 rfl) (ho.arg' HKY.out) hu (Nat.le_refl _) (Nat.le_refl _)).mono ?_
      rintro e ws ⟨he, hbs⟩
      exact ⟨he, hb.trans (hbs.mono hb.size)⟩
    go_region_with (first
      | (with_reducible refine (HCU.out).mono ?_; rintro e wu ⟨UA, un, uc, rfl, hu, hbu⟩; have du := D9.out.below hbu; have hu2 := hu.more hbu.size; have ho2 := O9.out.below hbu; have hB2 := B9.out.trans (hbu.mono B9.out.size); clear d0 d1 d2 d3 dl hu hbu; have d0 := du.cell 0 _ rfl; have d1 := du.cell 1 _ rfl; have d2 := du.cell 2 _ rfl; have d3 := du.cell 3 _ rfl; have dl := du.lt; clear du)
      | (with_reducible refine (HSQ.out _ _ _ _ (by assumption) (by assumption) (by assumption)).mono ?_; rintro e ws ⟨rfl, hbs⟩))
    all_goals
      go_wp2
      go_ret
      exact ⟨rfl, by assumption⟩
  · have hne : (f != 0) = true := by simpa using hf0
    go_wp2
    go_ret
    exact ⟨rfl, B7.out⟩
end Go.Proofs.Ytlkkldegbopnpaa
