/- WireOne: how it is walked. -/
import Derived.Test.YtndgladfcogiiaaWrT
import Derived.Deep.RegionWith
import Derived.BigRegion
import Derived.Deep.DeepCutAuto

/- What is asked is read again; used. -/
namespace Go.Proofs.Ytndgladfcogiiaa
open Go.RowKit
set_option maxRecDepth 100000
set_option linter.unusedVariables false
set_option maxHeartbeats 400000

/-- The fields alone that a call's form has. -/
def usedV (x : ClV) : ClV := if 4 < x.o then ⟨x.o, 0, 0, []⟩ else if x.o = 2 ∨ x.o = 4 then ⟨x.o, x.p, 0, x.ks⟩ else x
theorem rqC_ways {o : Nat} {p s : Int} {n : Nat} (h : rqC o p s n = 0) : (o = 5 ∨ o = 6) ∨ (polB p = true ∧ n ≤ 255 ∧ ((o = 1 ∧ tkB s = true) ∨ o = 2 ∨ (o = 3 ∧ serB s = true) ∨ o = 4)) := by
  unfold rqC at h
  split at h
  · rename_i g; exact .inl g
  split at h
  · simp at h
  split at h
  · simp at h
  split at h
  · simp at h
  rename_i g0 g1 g2 g3
  refine .inr ⟨?_, by omega, ?_⟩
  · cases hp : polB p
    · exact absurd (.inl hp) g2
    · rfl
  · rcases (by omega : o = 1 ∨ o = 2 ∨ o = 3 ∨ o = 4) with rfl | rfl | rfl | rfl
    · refine .inl ⟨rfl, ?_⟩
      cases hs : tkB s
      · exact absurd (.inr (.inl ⟨rfl, hs⟩)) g2
      · rfl
    · exact .inr (.inl rfl)
    · refine .inr (.inr (.inl ⟨rfl, ?_⟩))
      cases hs : serB s
      · exact absurd (.inr (.inr ⟨rfl, hs⟩)) g2
      · rfl
    · exact .inr (.inr (.inr rfl))
theorem rqB_max {o : Nat} {p s : Int} {zs : List Nat} (h : rqC o p s zs.length = 0) : (rqB o p s zs).length ≤ 4096 := by
  rcases rqC_ways h with (rfl | rfl) | ⟨_, hn, _⟩
  · simp [rqB]
  · simp [rqB]
  · unfold rqB
    split
    · simp [Tk.wordV_len]; omega
    split
    · simp [tokV_len]; omega
    split
    · simp; omega
    · simp
theorem toldV_self {o : Nat} {p s : Int} {ks : List Nat} (h : rqC o p s ks.length = 0) : toldV (rqB o p s ks) = some (usedV ⟨o, p, s, ks⟩) := by
  rcases rqC_ways h with (rfl | rfl) | ⟨hp, hn, ho⟩
  · rfl
  · rfl
  have hpp := polB_true hp
  obtain ⟨P, rfl⟩ : ∃ q : Nat, p = (q : Int) := ⟨p.toNat, by omega⟩
  rcases ho with ⟨rfl, hs⟩ | rfl | ⟨rfl, hs⟩ | rfl
  · have hss := tkB_true hs
    obtain ⟨S, rfl⟩ : ∃ q : Nat, s = (q : Int) := ⟨s.toNat, by omega⟩
    have e : rqB 1 (P : Int) (S : Int) ks = 1 :: P :: ks.length :: (ks ++ Tk.wordV S 8) := by simp [rqB]
    have e1 : (1 :: P :: ks.length :: (ks ++ Tk.wordV S 8)).drop 1 = P :: ks.length :: (ks ++ Tk.wordV S 8) := rfl
    have e2 : (P :: ks.length :: (ks ++ Tk.wordV S 8)).drop (2 + ks.length) = Tk.wordV S 8 := by
      rw [← List.drop_drop]
      show List.drop ks.length (ks ++ Tk.wordV S 8) = _
      rw [List.drop_left]
    have e3 : ((P :: ks.length :: (ks ++ Tk.wordV S 8)).drop 2).take ks.length = ks := by
      show List.take ks.length (ks ++ Tk.wordV S 8) = _
      rw [List.take_left]
    rw [e]
    unfold toldV
    rw [e1]
    simp only [List.length_cons, List.length_append, Tk.wordV_len, List.getD_cons_zero, List.getD_cons_succ, if_true]
    rw [if_neg (by omega), if_neg (by omega), e2, e3, List.take_of_length_le (by rw [Tk.wordV_len]; omega), Tk.numV_wordV, Nat.mod_eq_of_lt (by omega), IntWalk.i64_in _ (by omega)]
    simp [usedV]
  · have e : rqB 2 (P : Int) s ks = 2 :: P :: ks.length :: ks := by simp [rqB]
    have e1 : (2 :: P :: ks.length :: ks).drop 1 = P :: ks.length :: ks := rfl
    have e3 : ((P :: ks.length :: ks).drop 2).take ks.length = ks := by
      show List.take ks.length ks = _
      simp
    rw [e]
    unfold toldV
    rw [e1]
    simp only [List.length_cons, List.getD_cons_zero, List.getD_cons_succ]
    rw [if_neg (by omega), if_neg (by omega), if_pos (by simp), if_neg (by omega), e3]
    simp [usedV]
  · have hss := serB_true hs
    obtain ⟨S, rfl⟩ : ∃ q : Nat, s = (q : Int) := ⟨s.toNat, by omega⟩
    have e : rqB 3 (P : Int) (S : Int) ks = 3 :: tokV P ks S := by simp [rqB]
    have e1 : (3 :: tokV P ks S).drop 1 = tokV P ks S := rfl
    rw [e]
    unfold toldV
    rw [e1]
    simp only [List.length_cons, List.getD_cons_zero]
    rw [if_neg (by omega), if_neg (by omega), if_neg (by omega), if_pos trivial, if_pos (tokV_ok P ks S (by omega) (by omega) (by omega)), tokV_2, tokV_ser _ _ _ (by omega), tokV_key]
    simp [usedV]
  · have e : rqB 4 (P : Int) s ks = 4 :: P :: ks.length :: ks := by simp [rqB]
    have e1 : (4 :: P :: ks.length :: ks).drop 1 = P :: ks.length :: ks := rfl
    have e3 : ((P :: ks.length :: ks).drop 2).take ks.length = ks := by
      show List.take ks.length ks = _
      simp
    rw [e]
    unfold toldV
    rw [e1]
    simp only [List.length_cons, List.getD_cons_zero, List.getD_cons_succ]
    rw [if_neg (by omega), if_neg (by omega), if_pos (by simp), if_neg (by omega), e3]
    simp [usedV]
theorem used_1 (o : Nat) (p s : Int) (ks : List Nat) (h : o = 1 ∨ o = 3) : usedV ⟨o, p, s, ks⟩ = ⟨o, p, s, ks⟩ := by
  unfold usedV
  dsimp only
  rw [if_neg (by omega), if_neg (by omega)]
theorem used_2 (o : Nat) (p s : Int) (ks : List Nat) (h : o = 2 ∨ o = 4) : usedV ⟨o, p, s, ks⟩ = ⟨o, p, 0, ks⟩ := by
  unfold usedV
  dsimp only
  rw [if_neg (by omega), if_pos h]
theorem used_5 (o : Nat) (p s : Int) (ks : List Nat) (h : 4 < o) : usedV ⟨o, p, s, ks⟩ = ⟨o, 0, 0, []⟩ := by
  unfold usedV
  dsimp only
  rw [if_pos h]
theorem rqC_used {o : Nat} {p s : Int} {ks : List Nat} (h : rqC o p s ks.length = 0) : rqC (usedV ⟨o, p, s, ks⟩).o (usedV ⟨o, p, s, ks⟩).p (usedV ⟨o, p, s, ks⟩).s (usedV ⟨o, p, s, ks⟩).ks.length = 0 ∧ rqB (usedV ⟨o, p, s, ks⟩).o (usedV ⟨o, p, s, ks⟩).p (usedV ⟨o, p, s, ks⟩).s (usedV ⟨o, p, s, ks⟩).ks = rqB o p s ks := by
  rcases rqC_ways h with ho | ⟨hp, hn, ho⟩
  · rw [used_5 o p s ks (by omega)]
    dsimp only
    refine ⟨by unfold rqC; rw [if_pos ho], ?_⟩
    unfold rqB
    rw [if_neg (by omega), if_neg (by omega), if_neg (by omega), if_neg (by omega), if_neg (by omega), if_neg (by omega)]
  by_cases h1 : o = 1 ∨ o = 3
  · rw [used_1 o p s ks h1]
    dsimp only
    exact ⟨h, by with_reducible rfl⟩
  · have h2 : o = 2 ∨ o = 4 := by omega
    rw [used_2 o p s ks h2]
    dsimp only
    refine ⟨?_, ?_⟩
    · unfold rqC
      rw [if_neg (by omega), if_neg (by omega), if_neg ?_, if_neg (by omega)]
      rw [hp]
      rintro (g | ⟨g, _⟩ | ⟨g, _⟩)
      · simp at g
      · omega
      · omega
    · unfold rqB
      rw [if_neg (by omega), if_neg (by omega), if_pos h2, if_neg (by omega), if_neg (by omega)]
theorem rqV_self {o : Nat} {p s : Int} {ks : List Nat} (h : rqC o p s ks.length = 0) : rqV (rqB o p s ks) = (usedV ⟨o, p, s, ks⟩, 0) := by
  unfold rqV
  rw [if_neg (by have := rqB_max h; omega), toldV_self h]
  show (if _ then _ else _) = _
  rw [if_pos (rqC_used h)]

end Go.Proofs.Ytndgladfcogiiaa


/- Contract: used. -/
namespace Go.Proofs.Ytndgladfcogiiaa
open Go.RowKit
set_option maxRecDepth 100000
set_option linter.unusedVariables false
set_option maxHeartbeats 400000

/-- What used answers. -/
def UsE (w : World) (x : ClV) (B : Nat) (e : Ending) (w' : World) : Prop :=
  ∃ UA un uc, e = .returned (ClA (usedV x).o (usedV x).p UA un uc (usedV x).s) ∧ Arg w' B UA un uc (usedV x).ks ∧ Below w.heap.size w w'
theorem us_ret {w wf : World} {x : ClV} {B : Nat} {o : Nat} {p s : Int} {UA : Option Addr} {un uc : Nat} {ks : List Nat} (hx : usedV x = ⟨o, p, s, ks⟩) (tmps : Array Value) (hb : BlkL wf (w.heap.size + 1) (clB o p UA un uc s)) (t2 : tmps[2]? = some (.pointer (some ⟨w.heap.size + 1, 0, none⟩)))
    (ha : Arg wf B UA un uc ks) (ho : Below w.heap.size w wf) : bodyPost Try.prog Try.f48 (UsE w x B) Exit.ret { tmps := tmps, defers := [] } wf := by
  have c0 := hb.cell 0 _ rfl
  have c1 := hb.cell 1 _ rfl
  have c2 := hb.cell 2 _ rfl
  have c3 := hb.cell 3 _ rfl
  exact bodyPost_ret (v := ClA o p UA un uc s) (by simp [results, Try.results48, go_sem, t2, c0, c1, c2, c3]) rfl ⟨UA, un, uc, by rw [hx], by rw [hx]; exact ha, ho⟩
abbrev usW (w : World) (o p : Int) (A : Option Addr) (n c : Nat) (s : Int) (o' p' : Int) (A' : Option Addr) (n' c' : Nat) (s' : Int) : World := (clW w o p A n c s).alloc (.cells #[.int .u8 o', .int .i64 p', .slice A' n' c', .int .i64 s'] 71)
theorem usW_b (w : World) (o p : Int) (A : Option Addr) (n c : Nat) (s : Int) (o' p' : Int) (A' : Option Addr) (n' c' : Nat) (s' : Int) : Below w.heap.size w (usW w o p A n c s o' p' A' n' c' s') := (clBl w o p A n c s).alloc (by simp) _
theorem usW_k (w : World) (o p : Int) (A : Option Addr) (n c : Nat) (s : Int) (o' p' : Int) (A' : Option Addr) (n' c' : Nat) (s' : Int) : BlkL (usW w o p A n c s o' p' A' n' c' s') (w.heap.size + 1) (clB o' p' A' n' c' s') := by
  have := clK (clW w o p A n c s) o' p' A' n' c' s'
  rwa [show (clW w o p A n c s).heap.size = w.heap.size + 1 by simp] at this
theorem used_any (w : World) (B o : Nat) (p s : Int) (A : Option Addr) (n c : Nat) (ks : List Nat) (h : Arg w B A n c ks) (hB : B ≤ w.heap.size) : Calls Try.prog 48 #[ClA o p A n c s] w (UsE w ⟨o, p, s, ks⟩ B) := by
  have HA := Lib.hid h
  have HB := Lib.hid hB
  have K := (clK w o p A n c s).alloc (.cells #[.int .u8 0, .int .i64 0, .slice none 0 0, .int .i64 0] 71)
  have c0 := K.cell 0 _ rfl
  have c1 := K.cell 1 _ rfl
  have c2 := K.cell 2 _ rfl
  have c3 := K.cell 3 _ rfl
  have f3 := K.froz 3 (by simp)
  have l0 := K.lt
  clear K h hB
  by_cases h4 : 4 < o
  · have d1 : decide ((4 : Int) < (o : Int)) = true := by simp; omega
    have HX : Hid (usedV ⟨o, p, s, ks⟩ = ⟨o, 0, 0, []⟩) := Lib.hid (used_5 o p s ks h4)
    go_enter Try.func48, Try.ntmps48
    go_wp2
    exact us_ret HX.out _ (usW_k w o p A n c s o 0 none 0 0 0) rfl (Arg.nil _ _) (usW_b w o p A n c s o 0 none 0 0 0)
  · have d1 : decide ((4 : Int) < (o : Int)) = false := by simp; omega
    by_cases h2 : o = 2 ∨ o = 4
    · have HX : Hid (usedV ⟨o, p, s, ks⟩ = ⟨o, p, 0, ks⟩) := Lib.hid (used_2 o p s ks h2)
      rcases h2 with rfl | rfl
      · go_enter Try.func48, Try.ntmps48
        go_wp2_with fail
        exact us_ret (x := ⟨2, p, s, ks⟩) HX.out _ (usW_k w 2 p A n c 0 2 p A n c 0) rfl (HA.out.below ((usW_b w 2 p A n c 0 2 p A n c 0).mono HB.out)) (usW_b w 2 p A n c 0 2 p A n c 0)
      · go_enter Try.func48, Try.ntmps48
        go_wp2_with fail
        exact us_ret (x := ⟨4, p, s, ks⟩) HX.out _ (usW_k w 4 p A n c 0 4 p A n c 0) rfl (HA.out.below ((usW_b w 4 p A n c 0 4 p A n c 0).mono HB.out)) (usW_b w 4 p A n c 0 4 p A n c 0)
    · have HX : Hid (usedV ⟨o, p, s, ks⟩ = ⟨o, p, s, ks⟩) := Lib.hid (by unfold usedV; dsimp only; rw [if_neg h4, if_neg h2])
      have e2 : ((o : Int) == 2) = false := by simp; omega
      have e4 : ((o : Int) == 4) = false := by simp; omega
      go_enter Try.func48, Try.ntmps48
      go_wp2
      exact us_ret HX.out _ (usW_k w o p A n c s o p A n c s) rfl (HA.out.below ((usW_b w o p A n c s o p A n c s).mono HB.out)) (usW_b w o p A n c s o p A n c s)
end Go.Proofs.Ytndgladfcogiiaa


/- No request begins another; two calls have one request only where their fields are the same. -/
namespace Go.Proofs.Ytndgladfcogiiaa
open Go.RowKit
set_option maxRecDepth 100000
set_option linter.unusedVariables false
set_option maxHeartbeats 400000

/-- How long a request is, by its first bytes. -/
def rqH (l : List Nat) : Nat := if l.getD 0 0 = 1 then 11 + l.getD 2 0 else if l.getD 0 0 = 3 then 17 + l.getD 4 0 else if l.getD 0 0 = 2 ∨ l.getD 0 0 = 4 then 3 + l.getD 2 0 else 1
theorem rq_head (o : Nat) (p s : Int) (ks : List Nat) : (rqB o p s ks).getD 0 0 = o := by
  unfold rqB
  repeat' split
  all_goals simp
theorem rq_len {o : Nat} {p s : Int} {ks : List Nat} (h : rqC o p s ks.length = 0) : (rqB o p s ks).length = rqH (rqB o p s ks) := by
  unfold rqH
  rw [rq_head]
  rcases rqC_ways h with ho | ⟨_, _, ho⟩
  · rw [if_neg (by omega), if_neg (by omega), if_neg (by omega)]
    unfold rqB
    rw [if_neg (by omega), if_neg (by omega), if_neg (by omega)]
    rfl
  rcases ho with ⟨rfl, _⟩ | rfl | ⟨rfl, _⟩ | rfl
  · simp [rqB, Tk.wordV_len]; omega
  · simp [rqB]; omega
  · have e : rqB 3 p s ks = 3 :: tokV p.toNat ks s.toNat := by unfold rqB; rw [if_neg (by omega), if_pos rfl]
    rw [if_neg (by omega), if_pos rfl, e, List.length_cons, tokV_len, List.getD_cons_succ, tokV_3]
    omega
  · simp [rqB]; omega
theorem rq_min {o : Nat} {p s : Int} {ks : List Nat} (h : rqC o p s ks.length = 0) : 1 ≤ (rqB o p s ks).length ∧ (o = 1 ∨ o = 2 ∨ o = 4 → 3 ≤ (rqB o p s ks).length) ∧ (o = 3 → 17 ≤ (rqB o p s ks).length) := by
  refine ⟨rqB_len _ _ _ _, fun ho => ?_, fun ho => ?_⟩
  · rcases ho with rfl | rfl | rfl <;> simp [rqB]
  · subst ho; simp [rqB, tokV_len]
theorem rq_prefix {o o' : Nat} {p s p' s' : Int} {ks ks' l : List Nat} (h : rqC o p s ks.length = 0) (h' : rqC o' p' s' ks'.length = 0) (he : rqB o' p' s' ks' = rqB o p s ks ++ l) : l = [] := by
  have h1 := rq_len h
  have h2 := rq_len h'
  have hm := rq_min h
  have e0 := rq_head o' p' s' ks'
  rw [he] at h2 e0
  have g : ∀ i, i < (rqB o p s ks).length → (rqB o p s ks ++ l).getD i 0 = (rqB o p s ks).getD i 0 := fun i hi => by
    simp [List.getD_eq_getElem?_getD, List.getElem?_append_left hi]
  rw [g 0 (by omega), rq_head] at e0
  subst e0
  have hh : rqH (rqB o p s ks ++ l) = rqH (rqB o p s ks) := by
    unfold rqH
    rw [g 0 (by omega), rq_head]
    split
    · rename_i ho; rw [g 2 (by have := hm.2.1 (.inl ho); omega)]
    split
    · rename_i _ ho; rw [g 4 (by have := hm.2.2 ho; omega)]
    split
    · rename_i _ _ ho; rw [g 2 (by have := hm.2.1 (.inr ho); omega)]
    · rfl
  rw [hh, ← h1, List.length_append] at h2
  exact List.eq_nil_of_length_eq_zero (by omega)
theorem rqV_code {zs : List Nat} (hl : zs.length ≤ 4096) (hn : ∀ x : ClV, rqC x.o x.p x.s x.ks.length = 0 → rqB x.o x.p x.s x.ks ≠ zs) : rqV zs = (ClV.zero, 3) := by
  unfold rqV
  rw [if_neg (by omega)]
  cases toldV zs with
  | none => rfl
  | some x =>
    show (if _ then _ else _) = _
    rw [if_neg (fun hh => hn x hh.1 hh.2)]
theorem rqV_cut {o : Nat} {p s : Int} {ks : List Nat} (h : rqC o p s ks.length = 0) (k : Nat) (hk : k < (rqB o p s ks).length) : rqV ((rqB o p s ks).take k) = (ClV.zero, 3) := by
  have hm := rqB_max h
  refine rqV_code (by simp; omega) fun x hx he => ?_
  have := rq_prefix hx h (l := (rqB o p s ks).drop k) (by rw [he, List.take_append_drop])
  have h2 := congrArg List.length this
  simp at h2
  omega
theorem rqV_more {o : Nat} {p s : Int} {ks l : List Nat} (h : rqC o p s ks.length = 0) (hl : (rqB o p s ks).length + l.length ≤ 4096) (h0 : 0 < l.length) : rqV (rqB o p s ks ++ l) = (ClV.zero, 3) := by
  refine rqV_code (by simp; omega) fun x hx he => ?_
  have := rq_prefix h hx (l := l) he
  subst this
  simp at h0
theorem rq_one {o o' : Nat} {p s p' s' : Int} {ks ks' : List Nat} (h : rqC o p s ks.length = 0) (h' : rqC o' p' s' ks'.length = 0) : decide (rqB o p s ks = rqB o' p' s' ks') = eqC (usedV ⟨o, p, s, ks⟩) (usedV ⟨o', p', s', ks'⟩) := by
  rw [Bool.eq_iff_iff, eqC_iff, decide_eq_true_iff]
  constructor
  · intro e
    have h1 := rqV_self h
    rw [e, rqV_self h'] at h1
    exact (congrArg Prod.fst h1).symm
  · intro e
    rw [← (rqC_used h).2, ← (rqC_used h').2, e]
end Go.Proofs.Ytndgladfcogiiaa


/- used, with its slice told. -/
namespace Go.Proofs.Ytndgladfcogiiaa
open Go.RowKit
set_option maxRecDepth 100000
set_option linter.unusedVariables false
set_option maxHeartbeats 400000

def uA (o : Nat) (A : Option Addr) : Option Addr := if 4 < o then none else A
def uN (o n : Nat) : Nat := if 4 < o then 0 else n
def UsD (w : World) (x : ClV) (A : Option Addr) (n c : Nat) (e : Ending) (w' : World) : Prop :=
  e = .returned (ClA (usedV x).o (usedV x).p (uA x.o A) (uN x.o n) (uN x.o c) (usedV x).s) ∧ Below w.heap.size w w'
theorem us_retD {w wf : World} {x : ClV} {o : Nat} {p s : Int} {A UA : Option Addr} {n c un uc : Nat} {ks : List Nat} (hx : usedV x = ⟨o, p, s, ks⟩) (tmps : Array Value) (hb : BlkL wf (w.heap.size + 1) (clB o p UA un uc s)) (t2 : tmps[2]? = some (.pointer (some ⟨w.heap.size + 1, 0, none⟩)))
    (hu : UA = uA x.o A ∧ un = uN x.o n ∧ uc = uN x.o c) (ho : Below w.heap.size w wf) : bodyPost Try.prog Try.f48 (UsD w x A n c) Exit.ret { tmps := tmps, defers := [] } wf := by
  have c0 := hb.cell 0 _ rfl
  have c1 := hb.cell 1 _ rfl
  have c2 := hb.cell 2 _ rfl
  have c3 := hb.cell 3 _ rfl
  exact bodyPost_ret (v := ClA o p UA un uc s) (by simp [results, Try.results48, go_sem, t2, c0, c1, c2, c3]) rfl ⟨by rw [hx, ← hu.1, ← hu.2.1, ← hu.2.2], ho⟩
theorem used_det (w : World) (B o : Nat) (p s : Int) (A : Option Addr) (n c : Nat) (ks : List Nat) (h : Arg w B A n c ks) (hB : B ≤ w.heap.size) : Calls Try.prog 48 #[ClA o p A n c s] w (UsD w ⟨o, p, s, ks⟩ A n c) := by
  have HA := Lib.hid h
  have HB := Lib.hid hB
  have K := (clK w o p A n c s).alloc (.cells #[.int .u8 0, .int .i64 0, .slice none 0 0, .int .i64 0] 71)
  have c0 := K.cell 0 _ rfl
  have c1 := K.cell 1 _ rfl
  have c2 := K.cell 2 _ rfl
  have c3 := K.cell 3 _ rfl
  have f3 := K.froz 3 (by simp)
  have l0 := K.lt
  clear K h hB
  by_cases h4 : 4 < o
  · have d1 : decide ((4 : Int) < (o : Int)) = true := by simp; omega
    have HX : Hid (usedV ⟨o, p, s, ks⟩ = ⟨o, 0, 0, []⟩) := Lib.hid (used_5 o p s ks h4)
    go_enter Try.func48, Try.ntmps48
    go_wp2
    exact us_retD HX.out _ (usW_k w o p A n c s o 0 none 0 0 0) rfl (by unfold uN uA; dsimp only; rw [if_pos h4, if_pos h4, if_pos h4]; exact ⟨rfl, rfl, rfl⟩) (usW_b w o p A n c s o 0 none 0 0 0)
  · have d1 : decide ((4 : Int) < (o : Int)) = false := by simp; omega
    by_cases h2 : o = 2 ∨ o = 4
    · have HX : Hid (usedV ⟨o, p, s, ks⟩ = ⟨o, p, 0, ks⟩) := Lib.hid (used_2 o p s ks h2)
      rcases h2 with rfl | rfl
      · go_enter Try.func48, Try.ntmps48
        go_wp2_with fail
        exact us_retD (x := ⟨2, p, s, ks⟩) HX.out _ (usW_k w 2 p A n c 0 2 p A n c 0) rfl (by unfold uN uA; dsimp only; rw [if_neg (by omega), if_neg (by omega), if_neg (by omega)]; exact ⟨rfl, rfl, rfl⟩) (usW_b w 2 p A n c 0 2 p A n c 0)
      · go_enter Try.func48, Try.ntmps48
        go_wp2_with fail
        exact us_retD (x := ⟨4, p, s, ks⟩) HX.out _ (usW_k w 4 p A n c 0 4 p A n c 0) rfl (by unfold uN uA; dsimp only; rw [if_neg (by omega), if_neg (by omega), if_neg (by omega)]; exact ⟨rfl, rfl, rfl⟩) (usW_b w 4 p A n c 0 4 p A n c 0)
    · have HX : Hid (usedV ⟨o, p, s, ks⟩ = ⟨o, p, s, ks⟩) := Lib.hid (by unfold usedV; dsimp only; rw [if_neg h4, if_neg h2])
      have e2 : ((o : Int) == 2) = false := by simp; omega
      have e4 : ((o : Int) == 4) = false := by simp; omega
      go_enter Try.func48, Try.ntmps48
      go_wp2
      exact us_retD HX.out _ (usW_k w o p A n c s o p A n c s) rfl (by unfold uN uA; dsimp only; rw [if_neg (by omega), if_neg (by omega), if_neg (by omega)]; exact ⟨rfl, rfl, rfl⟩) (usW_b w o p A n c s o p A n c s)
theorem uA_arg {w : World} {B o n c : Nat} {p s : Int} {A : Option Addr} {ks : List Nat} (h : Arg w B A n c ks) : Arg w B (uA o A) (uN o n) (uN o c) (usedV ⟨o, p, s, ks⟩).ks := by
  by_cases h4 : 4 < o
  · rw [used_5 o p s ks h4]
    unfold uA uN
    rw [if_pos h4, if_pos h4, if_pos h4]
    exact Arg.nil _ _
  · have : (usedV ⟨o, p, s, ks⟩).ks = ks := by
      unfold usedV
      dsimp only
      rw [if_neg h4]
      split <;> rfl
    rw [this]
    unfold uA uN
    rw [if_neg h4, if_neg h4, if_neg h4]
    exact h
end Go.Proofs.Ytndgladfcogiiaa


/- The law WireOne: its walk. -/
namespace Go.Proofs.Ytndgladfcogiiaa
open Go.RowKit
set_option maxRecDepth 100000
set_option linter.unusedVariables false

/-- The bytes of a call, none where it is wrong. -/
def rqM (x : ClV) : List Nat := if rqC x.o x.p x.s x.ks.length = 0 then rqB x.o x.p x.s x.ks else []
theorem request_m (w : World) (B : Nat) (x : ClV) (A : Option Addr) (n c : Nat) (h : Arg w B A n c x.ks) (hB : B ≤ w.heap.size) (f : Int) (hf : rqC x.o x.p x.s x.ks.length = f) : Calls Try.prog 44 #[ClA x.o x.p A n c x.s] w fun e w' =>
    ∃ XA xc, e = .returned (.tuple #[.slice XA (rqM x).length xc, .int .i64 f]) ∧ Arg w' w'.heap.size XA (rqM x).length xc (rqM x) ∧ Below w.heap.size w w' := by
  subst hf
  refine (request_any w B x.o x.p x.s A n c x.ks h hB).mono ?_
  rintro e w' ⟨XA, xn, xc, he, ha, hb⟩
  have ha' : Arg w' w'.heap.size XA xn xc (rqM x) := ha
  have hl := ha'.len
  subst hl
  exact ⟨XA, xc, he, ha', hb⟩
structure OnP (w : World) (x y : ClV) (A A' : Option Addr) (n c n' c' : Nat) (PA QA : Option Addr) (pc qc : Nat) (L M : List Nat) (MA : Option Addr) (m mc : Nat) (zs : List Nat) (wu : World) : Prop where
  a : BlkL wu w.heap.size (clB x.o x.p A n c x.s)
  b : BlkL wu (w.heap.size + 1) (clB y.o y.p A' n' c' y.s)
  ka : Arg wu wu.heap.size A n c x.ks
  kb : Arg wu wu.heap.size A' n' c' y.ks
  pa : Arg wu wu.heap.size PA L.length pc L
  qa : Arg wu wu.heap.size QA M.length qc M
  mo : Arg wu wu.heap.size MA m mc zs
  bl : Below w.heap.size w wu
section
variable {w wu wv : World} {x y : ClV} {A A' PA QA MA : Option Addr} {n c n' c' pc qc m mc : Nat} {L M zs : List Nat}
theorem OnP.step (h : OnP w x y A A' n c n' c' PA QA pc qc L M MA m mc zs wu) (hb : Below wu.heap.size wu wv) : OnP w x y A A' n c n' c' PA QA pc qc L M MA m mc zs wv :=
  ⟨h.a.below hb, h.b.below hb, (h.ka.below hb).more hb.size, (h.kb.below hb).more hb.size, (h.pa.below hb).more hb.size, (h.qa.below hb).more hb.size, (h.mo.below hb).more hb.size, h.bl.trans (hb.mono h.bl.size)⟩
theorem OnP.sb (h : OnP w x y A A' n c n' c' PA QA pc qc L M MA m mc zs wu) (r : Bool) (hr : decide (L = M) = r) : Calls Try.prog 23 #[.slice PA L.length pc, .slice QA M.length qc] wu fun e w' => e = .returned (.bool r) ∧ OnP w x y A A' n c n' c' PA QA pc qc L M MA m mc zs w' := by
  refine (same_any wu _ _ PA QA _ pc _ qc L M r hr h.pa h.qa).mono ?_
  rintro e w' ⟨he, t, rfl⟩
  exact ⟨he, h.step (below_drewN (Below.refl _ _) t)⟩
theorem OnP.ua (h : OnP w x y A A' n c n' c' PA QA pc qc L M MA m mc zs wu) : Calls Try.prog 48 #[ClA x.o x.p A n c x.s] wu fun e w' => e = .returned (ClA (usedV x).o (usedV x).p (uA x.o A) (uN x.o n) (uN x.o c) (usedV x).s) ∧ OnP w x y A A' n c n' c' PA QA pc qc L M MA m mc zs w' := by
  refine (used_det wu _ x.o x.p x.s A n c x.ks h.ka (Nat.le_refl _)).mono ?_
  rintro e w' ⟨he, hb⟩
  exact ⟨he, h.step hb⟩
theorem OnP.ub (h : OnP w x y A A' n c n' c' PA QA pc qc L M MA m mc zs wu) : Calls Try.prog 48 #[ClA y.o y.p A' n' c' y.s] wu fun e w' => e = .returned (ClA (usedV y).o (usedV y).p (uA y.o A') (uN y.o n') (uN y.o c') (usedV y).s) ∧ OnP w x y A A' n c n' c' PA QA pc qc L M MA m mc zs w' := by
  refine (used_det wu _ y.o y.p y.s A' n' c' y.ks h.kb (Nat.le_refl _)).mono ?_
  rintro e w' ⟨he, hb⟩
  exact ⟨he, h.step hb⟩
theorem OnP.sm (h : OnP w x y A A' n c n' c' PA QA pc qc L M MA m mc zs wu) (r : Bool) (hr : eqC (usedV x) (usedV y) = r) : Calls Try.prog 47 #[ClA (usedV x).o (usedV x).p (uA x.o A) (uN x.o n) (uN x.o c) (usedV x).s, ClA (usedV y).o (usedV y).p (uA y.o A') (uN y.o n') (uN y.o c') (usedV y).s] wu fun e w' => e = .returned (.bool r) ∧ OnP w x y A A' n c n' c' PA QA pc qc L M MA m mc zs w' := by
  have ha : Arg wu wu.heap.size (uA x.o A) (uN x.o n) (uN x.o c) (usedV x).ks := uA_arg (p := x.p) (s := x.s) h.ka
  have hb : Arg wu wu.heap.size (uA y.o A') (uN y.o n') (uN y.o c') (usedV y).ks := uA_arg (p := y.p) (s := y.s) h.kb
  refine (same21_any wu _ _ _ _ _ _ _ _ (usedV x) (usedV y) r hr ha hb (Nat.le_refl _) (Nat.le_refl _)).mono ?_
  rintro e w' ⟨he, hb⟩
  exact ⟨he, h.step hb⟩
theorem OnP.drew (h : OnP w x y A A' n c n' c' PA QA pc qc L M MA m mc zs wu) : OnP w x y A A' n c n' c' PA QA pc qc L M MA m mc zs wu.drew := h.step (Below.refl _ _).drew
end

theorem rr_bad (w : World) (A : Option Addr) (n c : Nat) (zs : List Nat) (h : Arg w w.heap.size A n c zs) (hr : rqV zs = (ClV.zero, 3)) : Calls Try.prog 46 #[.slice A n c] w fun e w' =>
    ∃ KA kc, e = .returned (.tuple #[ClA 0 0 KA 0 kc 0, .int .i64 3]) ∧ Below w.heap.size w w' := by
  refine (readRequest_any w A n c zs h).mono ?_
  rintro e w' ⟨KA, kc, he, _, hb⟩
  rw [hr] at he
  exact ⟨KA, kc, he, hb⟩

theorem rqm_no (w : World) (B : Nat) (x : ClV) (A : Option Addr) (n c : Nat) (h : Arg w B A n c x.ks) (hB : B ≤ w.heap.size) (f : Int) (hf : rqC x.o x.p x.s x.ks.length = f) (h0 : f ≠ 0) : Calls Try.prog 44 #[ClA x.o x.p A n c x.s] w fun e w' =>
    ∃ XA xc, e = .returned (.tuple #[.slice XA 0 xc, .int .i64 f]) ∧ Below w.heap.size w w' := by
  refine (request_m w B x A n c h hB f hf).mono ?_
  rintro e w' ⟨XA, xc, he, _, hb⟩
  have e0 : rqM x = [] := by unfold rqM; rw [if_neg (by rw [hf]; exact h0)]
  rw [e0] at he
  exact ⟨XA, xc, he, hb⟩
theorem rqm_yes (w : World) (B : Nat) (x : ClV) (A : Option Addr) (n c : Nat) (h : Arg w B A n c x.ks) (hB : B ≤ w.heap.size) (hf : rqC x.o x.p x.s x.ks.length = 0) : Calls Try.prog 44 #[ClA x.o x.p A n c x.s] w fun e w' =>
    ∃ XA xc, e = .returned (.tuple #[.slice XA (rqM x).length xc, .int .i64 0]) ∧ Below w.heap.size w w' := by
  refine (request_m w B x A n c h hB 0 hf).mono ?_
  rintro e w' ⟨XA, xc, he, _, hb⟩
  exact ⟨XA, xc, he, hb⟩
set_option maxHeartbeats 3200000 in
theorem on_good (x y : ClV) (A A' : Option Addr) (n c n' c' : Nat) (cut : Nat) (MA : Option Addr) (m mc : Nat) (zs : List Nat) (w : World) (h : Arg w w.heap.size A n c x.ks) (h' : Arg w w.heap.size A' n' c' y.ks) (hM : Arg w w.heap.size MA m mc zs) (hcut : cut < 256) (hms : mc ≤ 140737488351232)
    (hx : rqC x.o x.p x.s x.ks.length = 0) (hy : rqC y.o y.p y.s y.ks.length = 0) :
    Calls Try.prog 14 #[ClA x.o x.p A n c x.s, ClA y.o y.p A' n' c' y.s, .int .u8 (cut : Int), .slice MA m mc] w fun e w' => e = .returned (.bool true) ∧ Below w.heap.size w w' := by
  have HX := Lib.hid hx
  have HY := Lib.hid hy
  obtain ⟨L, hL⟩ : ∃ L, rqM x = L := ⟨_, rfl⟩
  obtain ⟨M, hM2⟩ : ∃ L, rqM y = L := ⟨_, rfl⟩
  have eL : L = rqB x.o x.p x.s x.ks := by rw [← hL]; unfold rqM; rw [if_pos hx]
  have eM : M = rqB y.o y.p y.s y.ks := by rw [← hM2]; unfold rqM; rw [if_pos hy]
  have HL := Lib.hid hL
  have HM2 := Lib.hid hM2
  have EL := Lib.hid eL
  obtain ⟨r, hr⟩ : ∃ r, eqC (usedV x) (usedV y) = r := ⟨_, rfl⟩
  have HR := Lib.hid hr
  have HR2 : Hid (decide (L = M) = r) := by
    refine Lib.hid ?_
    obtain ⟨o, p, s, ks⟩ := x
    obtain ⟨o', p', s', ks'⟩ := y
    rw [eL, eM, ← hr]
    exact rq_one hx hy
  have hle : 0 < L.length := by rw [eL]; exact rqB_len _ _ _ _
  have HA := Lib.hid h
  have HA' := Lib.hid h'
  have HMo := Lib.hid hM
  have B2 : Below w.heap.size w (usW w x.o x.p A n c x.s y.o y.p A' n' c' y.s) := usW_b _ _ _ _ _ _ _ _ _ _ _ _ _
  have HB2 := Lib.hid B2
  have K0 : Hid (BlkL (usW w x.o x.p A n c x.s y.o y.p A' n' c' y.s) w.heap.size (clB x.o x.p A n c x.s)) := Lib.hid ((clK w x.o x.p A n c x.s).alloc _)
  have K1 : Hid (BlkL (usW w x.o x.p A n c x.s y.o y.p A' n' c' y.s) (w.heap.size + 1) (clB y.o y.p A' n' c' y.s)) := Lib.hid (usW_k _ _ _ _ _ _ _ _ _ _ _ _ _)
  clear h h' hM hx hy hL hM2 eL eM hr B2
  go_enter Try.func14, Try.ntmps14
  go_wp2_with (with_reducible refine (awake21_any _).mono ?_)
  rintro e w1 ⟨rfl, hb1⟩
  have B1 := Lib.hid (HB2.out.trans (hb1.mono (by simp; omega)))
  have k1 := K0.out.below hb1
  have q1 := K1.out.below hb1
  have J1 := Lib.hid k1
  have I1 := Lib.hid q1
  have r0 := k1.cell 0 _ rfl
  have r1 := k1.cell 1 _ rfl
  have r2 := k1.cell 2 _ rfl
  have r3 := k1.cell 3 _ rfl
  have rl := k1.lt
  clear hb1 k1 q1 K0 K1 HB2
  have HC1 := Lib.hid (request_m w1 _ x A n c ((HA.out.below B1.out).more B1.out.size) (Nat.le_refl _) 0 HX.out)
  rw [HL.out] at HC1
  go_wp2_with fail
  with_reducible refine (HC1.out).mono ?_
  rintro e w2 ⟨PA, pc, rfl, ha2, hb2⟩
  have B2 := Lib.hid (B1.out.trans (hb2.mono B1.out.size))
  have HP2 := Lib.hid ha2
  have q2 := I1.out.below hb2
  have J2 := Lib.hid (J1.out.below hb2)
  have I2 := Lib.hid q2
  clear r0 r1 r2 r3 rl
  have r0 := q2.cell 0 _ rfl
  have r1 := q2.cell 1 _ rfl
  have r2 := q2.cell 2 _ rfl
  have r3 := q2.cell 3 _ rfl
  have rl := q2.lt
  clear ha2 hb2 q2 HC1 B1 J1 I1
  have HC2 := Lib.hid (request_m w2 _ y A' n' c' ((HA'.out.below B2.out).more B2.out.size) (Nat.le_refl _) 0 HY.out)
  rw [HM2.out] at HC2
  go_wp2_with fail
  with_reducible refine (HC2.out).mono ?_
  rintro e w3 ⟨QA, qc, rfl, ha3, hb3⟩
  have B3 := B2.out.trans (hb3.mono B2.out.size)
  have hp : OnP w x y A A' n c n' c' PA QA pc qc L M MA m mc zs w3 := ⟨J2.out.below hb3, I2.out.below hb3, (HA.out.below B3).more B3.size, (HA'.out.below B3).more B3.size, (HP2.out.below hb3).more hb3.size, ha3, (HMo.out.below B3).more B3.size, B3⟩
  clear r0 r1 r2 r3 rl ha3 hb3 B3 J2 I2 B2 HP2 HC2
  have hpd := hp.drew
  have c0 := hpd.a.cell 0 _ rfl
  have c1 := hpd.a.cell 1 _ rfl
  have c2 := hpd.a.cell 2 _ rfl
  have c3 := hpd.a.cell 3 _ rfl
  have d0 := hpd.b.cell 0 _ rfl
  have d1 := hpd.b.cell 1 _ rfl
  have d2 := hpd.b.cell 2 _ rfl
  have d3 := hpd.b.cell 3 _ rfl
  have lc := hpd.a.lt
  have ld := hpd.b.lt
  clear hp
  have HSB : Hid (∀ wu, OnP w x y A A' n c n' c' PA QA pc qc L M MA m mc zs wu → Calls Try.prog 23 #[.slice PA L.length pc, .slice QA M.length qc] wu fun e w' => e = .returned (.bool r) ∧ OnP w x y A A' n c n' c' PA QA pc qc L M MA m mc zs w') := Lib.hid fun wu hp => hp.sb r HR2.out
  have HUA : Hid (∀ wu, OnP w x y A A' n c n' c' PA QA pc qc L M MA m mc zs wu → Calls Try.prog 48 #[ClA x.o x.p A n c x.s] wu fun e w' => e = .returned (ClA (usedV x).o (usedV x).p (uA x.o A) (uN x.o n) (uN x.o c) (usedV x).s) ∧ OnP w x y A A' n c n' c' PA QA pc qc L M MA m mc zs w') := Lib.hid fun wu hp => hp.ua
  have HUB : Hid (∀ wu, OnP w x y A A' n c n' c' PA QA pc qc L M MA m mc zs wu → Calls Try.prog 48 #[ClA y.o y.p A' n' c' y.s] wu fun e w' => e = .returned (ClA (usedV y).o (usedV y).p (uA y.o A') (uN y.o n') (uN y.o c') (usedV y).s) ∧ OnP w x y A A' n c n' c' PA QA pc qc L M MA m mc zs w') := Lib.hid fun wu hp => hp.ub
  have HSM : Hid (∀ wu, OnP w x y A A' n c n' c' PA QA pc qc L M MA m mc zs wu → Calls Try.prog 47 #[ClA (usedV x).o (usedV x).p (uA x.o A) (uN x.o n) (uN x.o c) (usedV x).s, ClA (usedV y).o (usedV y).p (uA y.o A') (uN y.o n') (uN y.o c') (usedV y).s] wu fun e w' => e = .returned (.bool r) ∧ OnP w x y A A' n c n' c' PA QA pc qc L M MA m mc zs w') := Lib.hid fun wu hp => hp.sm r HR.out
  have hrr : (r != r) = false := by simp
  go_upto_region 7 with (fail)
  go_cut [59] (fun s7 wx => s7 = .bool false ∧ OnP w x y A A' n c n' c' PA QA pc qc L M MA m mc zs wx)
  case first =>
    go_region_with (first
      | (with_reducible refine (HSB.out _ (by assumption)).mono ?_; rintro e wu ⟨rfl, hp⟩; have c0 := hp.a.cell 0 _ rfl; have c1 := hp.a.cell 1 _ rfl; have c2 := hp.a.cell 2 _ rfl; have c3 := hp.a.cell 3 _ rfl; have d0 := hp.b.cell 0 _ rfl; have d1 := hp.b.cell 1 _ rfl; have d2 := hp.b.cell 2 _ rfl; have d3 := hp.b.cell 3 _ rfl; have lc := hp.a.lt; have ld := hp.b.lt)
      | (with_reducible refine (HUA.out _ (by assumption)).mono ?_; rintro e wu ⟨rfl, hp⟩; have c0 := hp.a.cell 0 _ rfl; have c1 := hp.a.cell 1 _ rfl; have c2 := hp.a.cell 2 _ rfl; have c3 := hp.a.cell 3 _ rfl; have d0 := hp.b.cell 0 _ rfl; have d1 := hp.b.cell 1 _ rfl; have d2 := hp.b.cell 2 _ rfl; have d3 := hp.b.cell 3 _ rfl; have lc := hp.a.lt; have ld := hp.b.lt)
      | (with_reducible refine (HUB.out _ (by assumption)).mono ?_; rintro e wu ⟨rfl, hp⟩; have c0 := hp.a.cell 0 _ rfl; have c1 := hp.a.cell 1 _ rfl; have c2 := hp.a.cell 2 _ rfl; have c3 := hp.a.cell 3 _ rfl; have d0 := hp.b.cell 0 _ rfl; have d1 := hp.b.cell 1 _ rfl; have d2 := hp.b.cell 2 _ rfl; have d3 := hp.b.cell 3 _ rfl; have lc := hp.a.lt; have ld := hp.b.lt)
      | (with_reducible refine (HSM.out _ (by assumption)).mono ?_; rintro e wu ⟨rfl, hp⟩; have c0 := hp.a.cell 0 _ rfl; have c1 := hp.a.cell 1 _ rfl; have c2 := hp.a.cell 2 _ rfl; have c3 := hp.a.cell 3 _ rfl; have d0 := hp.b.cell 0 _ rfl; have d1 := hp.b.cell 1 _ rfl; have d2 := hp.b.cell 2 _ rfl; have d3 := hp.b.cell 3 _ rfl; have lc := hp.a.lt; have ld := hp.b.lt))
    all_goals
      go_wp2_with fail
      go_meet
      exact ⟨by first | rfl | rw [hrr], by assumption⟩
  case rest =>
    obtain ⟨rfl, hp⟩ := hcut
    have HP := Lib.hid hp
    clear hp hpd HSB HUA HUB HSM hrr c0 c1 c2 c3 d0 d1 d2 d3 lc ld
    obtain ⟨q, hq⟩ : ∃ q, q = cut % L.length := ⟨_, rfl⟩
    have hq1 : q < L.length := by rw [hq]; exact Nat.mod_lt _ hle
    have hq2 : (cut : Int) % (L.length : Int) = (q : Int) := by rw [hq]; push_cast; rfl
    have hnz : ((L.length : Int) == 0) = false := beq_eq_false_iff_ne.2 (by omega)
    clear hq
    have hl := HP.out.pa.le
    have hlc := HP.out.pa.cap
    unfold maxLen at hlc
    have HD1 := Lib.hid (rr_bad wc PA q pc (L.take q) (HP.out.pa.take (k := q) (by omega)) (by rw [EL.out]; exact rqV_cut HX.out q (by rw [← EL.out]; exact hq1)))
    go_wp2_with fail
    with_reducible refine HD1.out.mono ?_
    rintro e w4 ⟨KA, kc, rfl, hb⟩
    have HP4 := Lib.hid (HP.out.step hb)
    clear hb HD1 HP hq2 hnz
    have hL4 : L.length ≤ 4096 := by rw [EL.out]; exact rqB_max HX.out
    have hmz : zs.length = m := HMo.out.len
    have hmc := HMo.out.le
    have b5 := (Below.refl w4.heap.size w4).alloc (Nat.le_refl _) (.cells #[.int .u8 0, .int .i64 0, .slice KA 0 kc, .int .i64 0] 71)
    have HB5 := Lib.hid (HP4.out.bl.trans (b5.mono HP4.out.bl.size))
    have HS4 := Lib.hid HP4.out.bl.size
    have HP5 := Lib.hid (HP4.out.pa.below b5)
    have HM5 := Lib.hid (HP4.out.mo.below b5)
    clear b5 HP4
    rcases Nat.eq_zero_or_pos m with h0 | h0
    · have hm0 : ((m : Int) == 0) = true := by simp [h0]
      clear h0
      go_wp2
      go_ret
      exact ⟨rfl, HB5.out⟩
    have hm0 : ((m : Int) == 0) = false := by simp; omega
    rcases Nat.lt_or_ge 4096 (L.length + m) with h4 | h4
    · have hd1 : decide ((4096 : Int) < (L.length : Int) + (m : Int)) = true := decide_eq_true (by omega)
      go_wp2
      go_ret
      exact ⟨rfl, HB5.out⟩
    have hd1 : decide ((4096 : Int) < (L.length : Int) + (m : Int)) = false := decide_eq_false (by omega)
    have be := (Below.refl (w4.heap.size + 1) (w4.alloc (.cells #[.int .u8 0, .int .i64 0, .slice KA 0 kc, .int .i64 0] 71))).alloc (by simp) (.cells #[] 5)
    have ho7 := OwnB.lit (w4.alloc (.cells #[.int .u8 0, .int .i64 0, .slice KA 0 kc, .int .i64 0] 71)) [] (by simp) (n := 0) rfl (by unfold maxLen; omega)
    simp only [World.size_alloc] at ho7
    have HO7 : Hid (OwnB ((w4.alloc (.cells #[.int .u8 0, .int .i64 0, .slice KA 0 kc, .int .i64 0] 71)).alloc (.cells #[] 5)) (w4.heap.size + 1) (some ⟨w4.heap.size + 1, 0, none⟩) 0 0 []) := Lib.hid ho7
    have HB7 := Lib.hid (HB5.out.trans (be.mono (by have := HS4.out; omega)))
    have HP7 := Lib.hid (HP5.out.below (be.mono (by omega)))
    have HM7 := Lib.hid (HM5.out.below (be.mono (by omega)))
    clear be ho7 HB5 HP5 HM5
    go_wp2_with (refine wpList_append_bytes rfl (.tmp 85) (.tmp 86) rfl (w4.heap.size + 1) (some ⟨w4.heap.size + 1, 0, none⟩) 0 0 [] rfl HO7.out _ PA L.length pc L rfl HP7.out (by omega) (by simp) ?_)
    intro A8 c8 w8 ho8 hb8
    have HO8 : Hid (OwnB w8 (w4.heap.size + 1) A8 L.length c8 L) := Lib.hid (by simpa using ho8)
    have HB8 := Lib.hid (HB7.out.trans (hb8.mono (by have := HS4.out; omega)))
    have HM8 := Lib.hid (HM7.out.below (hb8.mono (by omega)))
    have hz8 := hb8.size
    simp only [World.size_alloc] at hz8
    clear ho8 hb8 HB7 HM7 HP7 HO7
    go_wp2_with (refine wpList_append_bytes rfl (.tmp 87) (.tmp 88) rfl (w4.heap.size + 1) A8 L.length c8 L rfl HO8.out w4.heap.size MA m mc zs rfl HM8.out (by omega) (by omega) ?_)
    intro A9 c9 w9 ho9 hb9
    have HO9 := Lib.hid ho9.arg
    have HB9 := Lib.hid (HB8.out.trans (hb9.mono (by have := HS4.out; omega)))
    have hz9 := HB9.out.size
    clear ho9 hb9 HB8 HM8 HO8
    have HD2 := Lib.hid (rr_bad w9 A9 (L.length + m) c9 (L ++ zs) HO9.out (by rw [EL.out]; exact rqV_more HX.out (by rw [← EL.out, hmz]; exact h4) (by omega)))
    go_wp2_with fail
    with_reducible refine HD2.out.mono ?_
    rintro e w10 ⟨KB, kd, rfl, hb⟩
    have HB10 := Lib.hid ((HB9.out.trans (hb.mono hz9)).alloc (Nat.le_trans hz9 hb.size) (.cells #[.int .u8 0, .int .i64 0, .slice KB 0 kd, .int .i64 0] 71))
    clear hb HD2
    go_wp2
    go_ret
    exact ⟨rfl, HB10.out⟩

set_option maxHeartbeats 1600000 in
theorem on_ee (x y : ClV) (A A' : Option Addr) (n c n' c' : Nat) (cut : Nat) (MA : Option Addr) (m mc : Nat) (w : World) (h : Arg w w.heap.size A n c x.ks) (h' : Arg w w.heap.size A' n' c' y.ks)
    (fx : Int) (hfx : rqC x.o x.p x.s x.ks.length = fx) (h0x : fx ≠ 0) (fy : Int) (hfy : rqC y.o y.p y.s y.ks.length = fy) (h0y : fy ≠ 0) :
    Calls Try.prog 14 #[ClA x.o x.p A n c x.s, ClA y.o y.p A' n' c' y.s, .int .u8 (cut : Int), .slice MA m mc] w fun e w' => e = .returned (.bool true) ∧ Below w.heap.size w w' := by
  have HX := Lib.hid hfx
  have fx1 : (fx != 0) = true := by simpa using h0x
  have fx2 : (fx == 0) = false := by simpa using h0x
  clear hfx
  have HY := Lib.hid hfy
  have fy1 : (fy != 0) = true := by simpa using h0y
  have fy2 : (fy == 0) = false := by simpa using h0y
  clear hfy
  have HA := Lib.hid h
  have HA' := Lib.hid h'
  have B2 : Below w.heap.size w (usW w x.o x.p A n c x.s y.o y.p A' n' c' y.s) := usW_b _ _ _ _ _ _ _ _ _ _ _ _ _
  have HB2 := Lib.hid B2
  have K0 : Hid (BlkL (usW w x.o x.p A n c x.s y.o y.p A' n' c' y.s) w.heap.size (clB x.o x.p A n c x.s)) := Lib.hid ((clK w x.o x.p A n c x.s).alloc _)
  have K1 : Hid (BlkL (usW w x.o x.p A n c x.s y.o y.p A' n' c' y.s) (w.heap.size + 1) (clB y.o y.p A' n' c' y.s)) := Lib.hid (usW_k _ _ _ _ _ _ _ _ _ _ _ _ _)
  clear h h' B2
  go_enter Try.func14, Try.ntmps14
  go_wp2_with (with_reducible refine (awake21_any _).mono ?_)
  rintro e w1 ⟨rfl, hb1⟩
  have B1 := Lib.hid (HB2.out.trans (hb1.mono (by simp; omega)))
  have k1 := K0.out.below hb1
  have q1 := K1.out.below hb1
  have I1 := Lib.hid q1
  have r0 := k1.cell 0 _ rfl
  have r1 := k1.cell 1 _ rfl
  have r2 := k1.cell 2 _ rfl
  have r3 := k1.cell 3 _ rfl
  have rl := k1.lt
  clear hb1 k1 q1 K0 K1 HB2
  have HC1 := Lib.hid (rqm_no w1 _ x A n c ((HA.out.below B1.out).more B1.out.size) (Nat.le_refl _) fx HX.out h0x)
  go_wp2_with fail
  with_reducible refine (HC1.out).mono ?_
  rintro e w2 ⟨PA, pc, rfl, hb2⟩
  have B2 := Lib.hid (B1.out.trans (hb2.mono B1.out.size))
  have q2 := I1.out.below hb2
  clear r0 r1 r2 r3 rl
  have r0 := q2.cell 0 _ rfl
  have r1 := q2.cell 1 _ rfl
  have r2 := q2.cell 2 _ rfl
  have r3 := q2.cell 3 _ rfl
  have rl := q2.lt
  clear hb2 q2 HC1 B1 I1
  have HC2 := Lib.hid (rqm_no w2 _ y A' n' c' ((HA'.out.below B2.out).more B2.out.size) (Nat.le_refl _) fy HY.out h0y)
  go_wp2_with fail
  with_reducible refine (HC2.out).mono ?_
  rintro e w3 ⟨QA, qc, rfl, hb3⟩
  have B3 := Lib.hid (B2.out.trans (hb3.mono B2.out.size))
  clear r0 r1 r2 r3 rl hb3 HC2 B2
  go_wp2
  go_ret
  exact ⟨rfl, B3.out⟩

set_option maxHeartbeats 1600000 in
theorem on_eg (x y : ClV) (A A' : Option Addr) (n c n' c' : Nat) (cut : Nat) (MA : Option Addr) (m mc : Nat) (w : World) (h : Arg w w.heap.size A n c x.ks) (h' : Arg w w.heap.size A' n' c' y.ks)
    (fx : Int) (hfx : rqC x.o x.p x.s x.ks.length = fx) (h0x : fx ≠ 0) (hy : rqC y.o y.p y.s y.ks.length = 0) :
    Calls Try.prog 14 #[ClA x.o x.p A n c x.s, ClA y.o y.p A' n' c' y.s, .int .u8 (cut : Int), .slice MA m mc] w fun e w' => e = .returned (.bool true) ∧ Below w.heap.size w w' := by
  have HX := Lib.hid hfx
  have fx1 : (fx != 0) = true := by simpa using h0x
  have fx2 : (fx == 0) = false := by simpa using h0x
  clear hfx
  have HY := Lib.hid hy
  clear hy
  have HA := Lib.hid h
  have HA' := Lib.hid h'
  have B2 : Below w.heap.size w (usW w x.o x.p A n c x.s y.o y.p A' n' c' y.s) := usW_b _ _ _ _ _ _ _ _ _ _ _ _ _
  have HB2 := Lib.hid B2
  have K0 : Hid (BlkL (usW w x.o x.p A n c x.s y.o y.p A' n' c' y.s) w.heap.size (clB x.o x.p A n c x.s)) := Lib.hid ((clK w x.o x.p A n c x.s).alloc _)
  have K1 : Hid (BlkL (usW w x.o x.p A n c x.s y.o y.p A' n' c' y.s) (w.heap.size + 1) (clB y.o y.p A' n' c' y.s)) := Lib.hid (usW_k _ _ _ _ _ _ _ _ _ _ _ _ _)
  clear h h' B2
  go_enter Try.func14, Try.ntmps14
  go_wp2_with (with_reducible refine (awake21_any _).mono ?_)
  rintro e w1 ⟨rfl, hb1⟩
  have B1 := Lib.hid (HB2.out.trans (hb1.mono (by simp; omega)))
  have k1 := K0.out.below hb1
  have q1 := K1.out.below hb1
  have I1 := Lib.hid q1
  have r0 := k1.cell 0 _ rfl
  have r1 := k1.cell 1 _ rfl
  have r2 := k1.cell 2 _ rfl
  have r3 := k1.cell 3 _ rfl
  have rl := k1.lt
  clear hb1 k1 q1 K0 K1 HB2
  have HC1 := Lib.hid (rqm_no w1 _ x A n c ((HA.out.below B1.out).more B1.out.size) (Nat.le_refl _) fx HX.out h0x)
  go_wp2_with fail
  with_reducible refine (HC1.out).mono ?_
  rintro e w2 ⟨PA, pc, rfl, hb2⟩
  have B2 := Lib.hid (B1.out.trans (hb2.mono B1.out.size))
  have q2 := I1.out.below hb2
  clear r0 r1 r2 r3 rl
  have r0 := q2.cell 0 _ rfl
  have r1 := q2.cell 1 _ rfl
  have r2 := q2.cell 2 _ rfl
  have r3 := q2.cell 3 _ rfl
  have rl := q2.lt
  clear hb2 q2 HC1 B1 I1
  have HC2 := Lib.hid (rqm_yes w2 _ y A' n' c' ((HA'.out.below B2.out).more B2.out.size) (Nat.le_refl _)  HY.out)
  go_wp2_with fail
  with_reducible refine (HC2.out).mono ?_
  rintro e w3 ⟨QA, qc, rfl, hb3⟩
  have B3 := Lib.hid (B2.out.trans (hb3.mono B2.out.size))
  clear r0 r1 r2 r3 rl hb3 HC2 B2
  go_wp2
  go_ret
  exact ⟨rfl, B3.out⟩

set_option maxHeartbeats 1600000 in
theorem on_ge (x y : ClV) (A A' : Option Addr) (n c n' c' : Nat) (cut : Nat) (MA : Option Addr) (m mc : Nat) (w : World) (h : Arg w w.heap.size A n c x.ks) (h' : Arg w w.heap.size A' n' c' y.ks)
    (hx : rqC x.o x.p x.s x.ks.length = 0) (fy : Int) (hfy : rqC y.o y.p y.s y.ks.length = fy) (h0y : fy ≠ 0) :
    Calls Try.prog 14 #[ClA x.o x.p A n c x.s, ClA y.o y.p A' n' c' y.s, .int .u8 (cut : Int), .slice MA m mc] w fun e w' => e = .returned (.bool true) ∧ Below w.heap.size w w' := by
  have HX := Lib.hid hx
  clear hx
  have HY := Lib.hid hfy
  have fy1 : (fy != 0) = true := by simpa using h0y
  have fy2 : (fy == 0) = false := by simpa using h0y
  clear hfy
  have HA := Lib.hid h
  have HA' := Lib.hid h'
  have B2 : Below w.heap.size w (usW w x.o x.p A n c x.s y.o y.p A' n' c' y.s) := usW_b _ _ _ _ _ _ _ _ _ _ _ _ _
  have HB2 := Lib.hid B2
  have K0 : Hid (BlkL (usW w x.o x.p A n c x.s y.o y.p A' n' c' y.s) w.heap.size (clB x.o x.p A n c x.s)) := Lib.hid ((clK w x.o x.p A n c x.s).alloc _)
  have K1 : Hid (BlkL (usW w x.o x.p A n c x.s y.o y.p A' n' c' y.s) (w.heap.size + 1) (clB y.o y.p A' n' c' y.s)) := Lib.hid (usW_k _ _ _ _ _ _ _ _ _ _ _ _ _)
  clear h h' B2
  go_enter Try.func14, Try.ntmps14
  go_wp2_with (with_reducible refine (awake21_any _).mono ?_)
  rintro e w1 ⟨rfl, hb1⟩
  have B1 := Lib.hid (HB2.out.trans (hb1.mono (by simp; omega)))
  have k1 := K0.out.below hb1
  have q1 := K1.out.below hb1
  have I1 := Lib.hid q1
  have r0 := k1.cell 0 _ rfl
  have r1 := k1.cell 1 _ rfl
  have r2 := k1.cell 2 _ rfl
  have r3 := k1.cell 3 _ rfl
  have rl := k1.lt
  clear hb1 k1 q1 K0 K1 HB2
  have HC1 := Lib.hid (rqm_yes w1 _ x A n c ((HA.out.below B1.out).more B1.out.size) (Nat.le_refl _)  HX.out)
  go_wp2_with fail
  with_reducible refine (HC1.out).mono ?_
  rintro e w2 ⟨PA, pc, rfl, hb2⟩
  have B2 := Lib.hid (B1.out.trans (hb2.mono B1.out.size))
  have q2 := I1.out.below hb2
  clear r0 r1 r2 r3 rl
  have r0 := q2.cell 0 _ rfl
  have r1 := q2.cell 1 _ rfl
  have r2 := q2.cell 2 _ rfl
  have r3 := q2.cell 3 _ rfl
  have rl := q2.lt
  clear hb2 q2 HC1 B1 I1
  have HC2 := Lib.hid (rqm_no w2 _ y A' n' c' ((HA'.out.below B2.out).more B2.out.size) (Nat.le_refl _) fy HY.out h0y)
  go_wp2_with fail
  with_reducible refine (HC2.out).mono ?_
  rintro e w3 ⟨QA, qc, rfl, hb3⟩
  have B3 := Lib.hid (B2.out.trans (hb3.mono B2.out.size))
  clear r0 r1 r2 r3 rl hb3 HC2 B2
  go_wp2
  go_ret
  exact ⟨rfl, B3.out⟩

theorem wireOne_walk (o : Nat) (p : Int) (A : Option Addr) (n c : Nat) (ks : List Nat) (s : Int) (o' : Nat) (p' : Int) (A' : Option Addr) (n' c' : Nat) (ks' : List Nat) (s' : Int) (cut : Nat) (MA : Option Addr) (m mc : Nat) (zs : List Nat) (w : World) (ob : o < 256) (h : Arg w w.heap.size A n c ks) (hsz : c ≤ 140737488351232) (ob' : o' < 256) (h' : Arg w w.heap.size A' n' c' ks') (hsz' : c' ≤ 140737488351232) (hcut : cut < 256) (hM : Arg w w.heap.size MA m mc zs) (hms : mc ≤ 140737488351232) :
    Calls Try.prog 14 #[ClA o p A n c s, ClA o' p' A' n' c' s', .int .u8 (cut : Int), .slice MA m mc] w fun e w' => e = .returned (.bool true) ∧ Below w.heap.size w w' := by
  by_cases h1 : rqC o p s ks.length = 0
  · by_cases h2 : rqC o' p' s' ks'.length = 0
    · exact on_good ⟨o, p, s, ks⟩ ⟨o', p', s', ks'⟩ A A' n c n' c' cut MA m mc zs w h h' hM hcut hms h1 h2
    · exact on_ge ⟨o, p, s, ks⟩ ⟨o', p', s', ks'⟩ A A' n c n' c' cut MA m mc w h h' h1 _ rfl h2
  · by_cases h2 : rqC o' p' s' ks'.length = 0
    · exact on_eg ⟨o, p, s, ks⟩ ⟨o', p', s', ks'⟩ A A' n c n' c' cut MA m mc w h h' _ rfl h1 h2
    · exact on_ee ⟨o, p, s, ks⟩ ⟨o', p', s', ks'⟩ A A' n c n' c' cut MA m mc w h h' _ rfl h1 _ rfl h2
end Go.Proofs.Ytndgladfcogiiaa
