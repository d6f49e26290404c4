/- A connection in memory; its methods; a nil one. -/
import Derived.Test.YtndgladfcogiiaaWrT
import Derived.Deep.RegionWith
import Derived.BigRegion
import Derived.Test.YtndgladfcogiiaaFrA
import Derived.Test.YtndgladfcogiiaaFrF
import Derived.Test.YtndgladfcogiiaaWrL
import Derived.Test.YtndgladfcogiiaaFrH
import Derived.Deep.RegionLaw
import Derived.Test.YtndgladfcogiiaaFrD
import Derived.BigQuiet
import Derived.Test.YtndgladfcogiiaaWrB
import Derived.Deep.DeepCutAuto
import Derived.Test.YtndgladfcogiiaaWrN
import Derived.Lib.SlBytesConst
import Derived.Test.YtndgladfcogiiaaWrF
import Derived.Test.YtndgladfcogiiaaWrS

/- What is asked is read again; used. -/
namespace Go.Proofs.Ytndgladfcogiiaa
open Go.RowKit
set_option maxRecDepth 100000
set_option linter.unusedVariables false
set_option maxHeartbeats 400000

/-- The fields alone that a call's form has. -/
def usedV (x : ClV) : ClV := if 4 < x.o then ⟨x.o, 0, 0, []⟩ else if x.o = 2 ∨ x.o = 4 then ⟨x.o, x.p, 0, x.ks⟩ else x
theorem rqC_ways {o : Nat} {p s : Int} {n : Nat} (h : rqC o p s n = 0) : (o = 5 ∨ o = 6) ∨ (polB p = true ∧ n ≤ 255 ∧ ((o = 1 ∧ tkB s = true) ∨ o = 2 ∨ (o = 3 ∧ serB s = true) ∨ o = 4)) := by
  unfold rqC at h
  split at h
  · rename_i g; exact .inl g
  split at h
  · simp at h
  split at h
  · simp at h
  split at h
  · simp at h
  rename_i g0 g1 g2 g3
  refine .inr ⟨?_, by omega, ?_⟩
  · cases hp : polB p
    · exact absurd (.inl hp) g2
    · rfl
  · rcases (by omega : o = 1 ∨ o = 2 ∨ o = 3 ∨ o = 4) with rfl | rfl | rfl | rfl
    · refine .inl ⟨rfl, ?_⟩
      cases hs : tkB s
      · exact absurd (.inr (.inl ⟨rfl, hs⟩)) g2
      · rfl
    · exact .inr (.inl rfl)
    · refine .inr (.inr (.inl ⟨rfl, ?_⟩))
      cases hs : serB s
      · exact absurd (.inr (.inr ⟨rfl, hs⟩)) g2
      · rfl
    · exact .inr (.inr (.inr rfl))
theorem rqB_max {o : Nat} {p s : Int} {zs : List Nat} (h : rqC o p s zs.length = 0) : (rqB o p s zs).length ≤ 4096 := by
  rcases rqC_ways h with (rfl | rfl) | ⟨_, hn, _⟩
  · simp [rqB]
  · simp [rqB]
  · unfold rqB
    split
    · simp [Tk.wordV_len]; omega
    split
    · simp [tokV_len]; omega
    split
    · simp; omega
    · simp
theorem toldV_self {o : Nat} {p s : Int} {ks : List Nat} (h : rqC o p s ks.length = 0) : toldV (rqB o p s ks) = some (usedV ⟨o, p, s, ks⟩) := by
  rcases rqC_ways h with (rfl | rfl) | ⟨hp, hn, ho⟩
  · rfl
  · rfl
  have hpp := polB_true hp
  obtain ⟨P, rfl⟩ : ∃ q : Nat, p = (q : Int) := ⟨p.toNat, by omega⟩
  rcases ho with ⟨rfl, hs⟩ | rfl | ⟨rfl, hs⟩ | rfl
  · have hss := tkB_true hs
    obtain ⟨S, rfl⟩ : ∃ q : Nat, s = (q : Int) := ⟨s.toNat, by omega⟩
    have e : rqB 1 (P : Int) (S : Int) ks = 1 :: P :: ks.length :: (ks ++ Tk.wordV S 8) := by simp [rqB]
    have e1 : (1 :: P :: ks.length :: (ks ++ Tk.wordV S 8)).drop 1 = P :: ks.length :: (ks ++ Tk.wordV S 8) := rfl
    have e2 : (P :: ks.length :: (ks ++ Tk.wordV S 8)).drop (2 + ks.length) = Tk.wordV S 8 := by
      rw [← List.drop_drop]
      show List.drop ks.length (ks ++ Tk.wordV S 8) = _
      rw [List.drop_left]
    have e3 : ((P :: ks.length :: (ks ++ Tk.wordV S 8)).drop 2).take ks.length = ks := by
      show List.take ks.length (ks ++ Tk.wordV S 8) = _
      rw [List.take_left]
    rw [e]
    unfold toldV
    rw [e1]
    simp only [List.length_cons, List.length_append, Tk.wordV_len, List.getD_cons_zero, List.getD_cons_succ, if_true]
    rw [if_neg (by omega), if_neg (by omega), e2, e3, List.take_of_length_le (by rw [Tk.wordV_len]; omega), Tk.numV_wordV, Nat.mod_eq_of_lt (by omega), IntWalk.i64_in _ (by omega)]
    simp [usedV]
  · have e : rqB 2 (P : Int) s ks = 2 :: P :: ks.length :: ks := by simp [rqB]
    have e1 : (2 :: P :: ks.length :: ks).drop 1 = P :: ks.length :: ks := rfl
    have e3 : ((P :: ks.length :: ks).drop 2).take ks.length = ks := by
      show List.take ks.length ks = _
      simp
    rw [e]
    unfold toldV
    rw [e1]
    simp only [List.length_cons, List.getD_cons_zero, List.getD_cons_succ]
    rw [if_neg (by omega), if_neg (by omega), if_pos (by simp), if_neg (by omega), e3]
    simp [usedV]
  · have hss := serB_true hs
    obtain ⟨S, rfl⟩ : ∃ q : Nat, s = (q : Int) := ⟨s.toNat, by omega⟩
    have e : rqB 3 (P : Int) (S : Int) ks = 3 :: tokV P ks S := by simp [rqB]
    have e1 : (3 :: tokV P ks S).drop 1 = tokV P ks S := rfl
    rw [e]
    unfold toldV
    rw [e1]
    simp only [List.length_cons, List.getD_cons_zero]
    rw [if_neg (by omega), if_neg (by omega), if_neg (by omega), if_pos trivial, if_pos (tokV_ok P ks S (by omega) (by omega) (by omega)), tokV_2, tokV_ser _ _ _ (by omega), tokV_key]
    simp [usedV]
  · have e : rqB 4 (P : Int) s ks = 4 :: P :: ks.length :: ks := by simp [rqB]
    have e1 : (4 :: P :: ks.length :: ks).drop 1 = P :: ks.length :: ks := rfl
    have e3 : ((P :: ks.length :: ks).drop 2).take ks.length = ks := by
      show List.take ks.length ks = _
      simp
    rw [e]
    unfold toldV
    rw [e1]
    simp only [List.length_cons, List.getD_cons_zero, List.getD_cons_succ]
    rw [if_neg (by omega), if_neg (by omega), if_pos (by simp), if_neg (by omega), e3]
    simp [usedV]
theorem used_1 (o : Nat) (p s : Int) (ks : List Nat) (h : o = 1 ∨ o = 3) : usedV ⟨o, p, s, ks⟩ = ⟨o, p, s, ks⟩ := by
  unfold usedV
  dsimp only
  rw [if_neg (by omega), if_neg (by omega)]
theorem used_2 (o : Nat) (p s : Int) (ks : List Nat) (h : o = 2 ∨ o = 4) : usedV ⟨o, p, s, ks⟩ = ⟨o, p, 0, ks⟩ := by
  unfold usedV
  dsimp only
  rw [if_neg (by omega), if_pos h]
theorem used_5 (o : Nat) (p s : Int) (ks : List Nat) (h : 4 < o) : usedV ⟨o, p, s, ks⟩ = ⟨o, 0, 0, []⟩ := by
  unfold usedV
  dsimp only
  rw [if_pos h]
theorem rqC_used {o : Nat} {p s : Int} {ks : List Nat} (h : rqC o p s ks.length = 0) : rqC (usedV ⟨o, p, s, ks⟩).o (usedV ⟨o, p, s, ks⟩).p (usedV ⟨o, p, s, ks⟩).s (usedV ⟨o, p, s, ks⟩).ks.length = 0 ∧ rqB (usedV ⟨o, p, s, ks⟩).o (usedV ⟨o, p, s, ks⟩).p (usedV ⟨o, p, s, ks⟩).s (usedV ⟨o, p, s, ks⟩).ks = rqB o p s ks := by
  rcases rqC_ways h with ho | ⟨hp, hn, ho⟩
  · rw [used_5 o p s ks (by omega)]
    dsimp only
    refine ⟨by unfold rqC; rw [if_pos ho], ?_⟩
    unfold rqB
    rw [if_neg (by omega), if_neg (by omega), if_neg (by omega), if_neg (by omega), if_neg (by omega), if_neg (by omega)]
  by_cases h1 : o = 1 ∨ o = 3
  · rw [used_1 o p s ks h1]
    dsimp only
    exact ⟨h, by with_reducible rfl⟩
  · have h2 : o = 2 ∨ o = 4 := by omega
    rw [used_2 o p s ks h2]
    dsimp only
    refine ⟨?_, ?_⟩
    · unfold rqC
      rw [if_neg (by omega), if_neg (by omega), if_neg ?_, if_neg (by omega)]
      rw [hp]
      rintro (g | ⟨g, _⟩ | ⟨g, _⟩)
      · simp at g
      · omega
      · omega
    · unfold rqB
      rw [if_neg (by omega), if_neg (by omega), if_pos h2, if_neg (by omega), if_neg (by omega)]
theorem rqV_self {o : Nat} {p s : Int} {ks : List Nat} (h : rqC o p s ks.length = 0) : rqV (rqB o p s ks) = (usedV ⟨o, p, s, ks⟩, 0) := by
  unfold rqV
  rw [if_neg (by have := rqB_max h; omega), toldV_self h]
  show (if _ then _ else _) = _
  rw [if_pos (rqC_used h)]

end Go.Proofs.Ytndgladfcogiiaa


/- Contract: used. -/
namespace Go.Proofs.Ytndgladfcogiiaa
open Go.RowKit
set_option maxRecDepth 100000
set_option linter.unusedVariables false
set_option maxHeartbeats 400000

/-- What used answers. -/
def UsE (w : World) (x : ClV) (B : Nat) (e : Ending) (w' : World) : Prop :=
  ∃ UA un uc, e = .returned (ClA (usedV x).o (usedV x).p UA un uc (usedV x).s) ∧ Arg w' B UA un uc (usedV x).ks ∧ Below w.heap.size w w'
theorem us_ret {w wf : World} {x : ClV} {B : Nat} {o : Nat} {p s : Int} {UA : Option Addr} {un uc : Nat} {ks : List Nat} (hx : usedV x = ⟨o, p, s, ks⟩) (tmps : Array Value) (hb : BlkL wf (w.heap.size + 1) (clB o p UA un uc s)) (t2 : tmps[2]? = some (.pointer (some ⟨w.heap.size + 1, 0, none⟩)))
    (ha : Arg wf B UA un uc ks) (ho : Below w.heap.size w wf) : bodyPost Try.prog Try.f48 (UsE w x B) Exit.ret { tmps := tmps, defers := [] } wf := by
  have c0 := hb.cell 0 _ rfl
  have c1 := hb.cell 1 _ rfl
  have c2 := hb.cell 2 _ rfl
  have c3 := hb.cell 3 _ rfl
  exact bodyPost_ret (v := ClA o p UA un uc s) (by simp [results, Try.results48, go_sem, t2, c0, c1, c2, c3]) rfl ⟨UA, un, uc, by rw [hx], by rw [hx]; exact ha, ho⟩
abbrev usW (w : World) (o p : Int) (A : Option Addr) (n c : Nat) (s : Int) (o' p' : Int) (A' : Option Addr) (n' c' : Nat) (s' : Int) : World := (clW w o p A n c s).alloc (.cells #[.int .u8 o', .int .i64 p', .slice A' n' c', .int .i64 s'] 71)
theorem usW_b (w : World) (o p : Int) (A : Option Addr) (n c : Nat) (s : Int) (o' p' : Int) (A' : Option Addr) (n' c' : Nat) (s' : Int) : Below w.heap.size w (usW w o p A n c s o' p' A' n' c' s') := (clBl w o p A n c s).alloc (by simp) _
theorem usW_k (w : World) (o p : Int) (A : Option Addr) (n c : Nat) (s : Int) (o' p' : Int) (A' : Option Addr) (n' c' : Nat) (s' : Int) : BlkL (usW w o p A n c s o' p' A' n' c' s') (w.heap.size + 1) (clB o' p' A' n' c' s') := by
  have := clK (clW w o p A n c s) o' p' A' n' c' s'
  rwa [show (clW w o p A n c s).heap.size = w.heap.size + 1 by simp] at this
theorem used_any (w : World) (B o : Nat) (p s : Int) (A : Option Addr) (n c : Nat) (ks : List Nat) (h : Arg w B A n c ks) (hB : B ≤ w.heap.size) : Calls Try.prog 48 #[ClA o p A n c s] w (UsE w ⟨o, p, s, ks⟩ B) := by
  have HA := Lib.hid h
  have HB := Lib.hid hB
  have K := (clK w o p A n c s).alloc (.cells #[.int .u8 0, .int .i64 0, .slice none 0 0, .int .i64 0] 71)
  have c0 := K.cell 0 _ rfl
  have c1 := K.cell 1 _ rfl
  have c2 := K.cell 2 _ rfl
  have c3 := K.cell 3 _ rfl
  have f3 := K.froz 3 (by simp)
  have l0 := K.lt
  clear K h hB
  by_cases h4 : 4 < o
  · have d1 : decide ((4 : Int) < (o : Int)) = true := by simp; omega
    have HX : Hid (usedV ⟨o, p, s, ks⟩ = ⟨o, 0, 0, []⟩) := Lib.hid (used_5 o p s ks h4)
    go_enter Try.func48, Try.ntmps48
    go_wp2
    exact us_ret HX.out _ (usW_k w o p A n c s o 0 none 0 0 0) rfl (Arg.nil _ _) (usW_b w o p A n c s o 0 none 0 0 0)
  · have d1 : decide ((4 : Int) < (o : Int)) = false := by simp; omega
    by_cases h2 : o = 2 ∨ o = 4
    · have HX : Hid (usedV ⟨o, p, s, ks⟩ = ⟨o, p, 0, ks⟩) := Lib.hid (used_2 o p s ks h2)
      rcases h2 with rfl | rfl
      · go_enter Try.func48, Try.ntmps48
        go_wp2_with fail
        exact us_ret (x := ⟨2, p, s, ks⟩) HX.out _ (usW_k w 2 p A n c 0 2 p A n c 0) rfl (HA.out.below ((usW_b w 2 p A n c 0 2 p A n c 0).mono HB.out)) (usW_b w 2 p A n c 0 2 p A n c 0)
      · go_enter Try.func48, Try.ntmps48
        go_wp2_with fail
        exact us_ret (x := ⟨4, p, s, ks⟩) HX.out _ (usW_k w 4 p A n c 0 4 p A n c 0) rfl (HA.out.below ((usW_b w 4 p A n c 0 4 p A n c 0).mono HB.out)) (usW_b w 4 p A n c 0 4 p A n c 0)
    · have HX : Hid (usedV ⟨o, p, s, ks⟩ = ⟨o, p, s, ks⟩) := Lib.hid (by unfold usedV; dsimp only; rw [if_neg h4, if_neg h2])
      have e2 : ((o : Int) == 2) = false := by simp; omega
      have e4 : ((o : Int) == 4) = false := by simp; omega
      go_enter Try.func48, Try.ntmps48
      go_wp2
      exact us_ret HX.out _ (usW_k w o p A n c s o p A n c s) rfl (HA.out.below ((usW_b w o p A n c s o p A n c s).mono HB.out)) (usW_b w o p A n c s o p A n c s)
end Go.Proofs.Ytndgladfcogiiaa


/- No request begins another; two calls have one request only where their fields are the same. -/
namespace Go.Proofs.Ytndgladfcogiiaa
open Go.RowKit
set_option maxRecDepth 100000
set_option linter.unusedVariables false
set_option maxHeartbeats 400000

/-- How long a request is, by its first bytes. -/
def rqH (l : List Nat) : Nat := if l.getD 0 0 = 1 then 11 + l.getD 2 0 else if l.getD 0 0 = 3 then 17 + l.getD 4 0 else if l.getD 0 0 = 2 ∨ l.getD 0 0 = 4 then 3 + l.getD 2 0 else 1
theorem rq_head (o : Nat) (p s : Int) (ks : List Nat) : (rqB o p s ks).getD 0 0 = o := by
  unfold rqB
  repeat' split
  all_goals simp
theorem rq_len {o : Nat} {p s : Int} {ks : List Nat} (h : rqC o p s ks.length = 0) : (rqB o p s ks).length = rqH (rqB o p s ks) := by
  unfold rqH
  rw [rq_head]
  rcases rqC_ways h with ho | ⟨_, _, ho⟩
  · rw [if_neg (by omega), if_neg (by omega), if_neg (by omega)]
    unfold rqB
    rw [if_neg (by omega), if_neg (by omega), if_neg (by omega)]
    rfl
  rcases ho with ⟨rfl, _⟩ | rfl | ⟨rfl, _⟩ | rfl
  · simp [rqB, Tk.wordV_len]; omega
  · simp [rqB]; omega
  · have e : rqB 3 p s ks = 3 :: tokV p.toNat ks s.toNat := by unfold rqB; rw [if_neg (by omega), if_pos rfl]
    rw [if_neg (by omega), if_pos rfl, e, List.length_cons, tokV_len, List.getD_cons_succ, tokV_3]
    omega
  · simp [rqB]; omega
theorem rq_min {o : Nat} {p s : Int} {ks : List Nat} (h : rqC o p s ks.length = 0) : 1 ≤ (rqB o p s ks).length ∧ (o = 1 ∨ o = 2 ∨ o = 4 → 3 ≤ (rqB o p s ks).length) ∧ (o = 3 → 17 ≤ (rqB o p s ks).length) := by
  refine ⟨rqB_len _ _ _ _, fun ho => ?_, fun ho => ?_⟩
  · rcases ho with rfl | rfl | rfl <;> simp [rqB]
  · subst ho; simp [rqB, tokV_len]
theorem rq_prefix {o o' : Nat} {p s p' s' : Int} {ks ks' l : List Nat} (h : rqC o p s ks.length = 0) (h' : rqC o' p' s' ks'.length = 0) (he : rqB o' p' s' ks' = rqB o p s ks ++ l) : l = [] := by
  have h1 := rq_len h
  have h2 := rq_len h'
  have hm := rq_min h
  have e0 := rq_head o' p' s' ks'
  rw [he] at h2 e0
  have g : ∀ i, i < (rqB o p s ks).length → (rqB o p s ks ++ l).getD i 0 = (rqB o p s ks).getD i 0 := fun i hi => by
    simp [List.getD_eq_getElem?_getD, List.getElem?_append_left hi]
  rw [g 0 (by omega), rq_head] at e0
  subst e0
  have hh : rqH (rqB o p s ks ++ l) = rqH (rqB o p s ks) := by
    unfold rqH
    rw [g 0 (by omega), rq_head]
    split
    · rename_i ho; rw [g 2 (by have := hm.2.1 (.inl ho); omega)]
    split
    · rename_i _ ho; rw [g 4 (by have := hm.2.2 ho; omega)]
    split
    · rename_i _ _ ho; rw [g 2 (by have := hm.2.1 (.inr ho); omega)]
    · rfl
  rw [hh, ← h1, List.length_append] at h2
  exact List.eq_nil_of_length_eq_zero (by omega)
theorem rqV_code {zs : List Nat} (hl : zs.length ≤ 4096) (hn : ∀ x : ClV, rqC x.o x.p x.s x.ks.length = 0 → rqB x.o x.p x.s x.ks ≠ zs) : rqV zs = (ClV.zero, 3) := by
  unfold rqV
  rw [if_neg (by omega)]
  cases toldV zs with
  | none => rfl
  | some x =>
    show (if _ then _ else _) = _
    rw [if_neg (fun hh => hn x hh.1 hh.2)]
theorem rqV_cut {o : Nat} {p s : Int} {ks : List Nat} (h : rqC o p s ks.length = 0) (k : Nat) (hk : k < (rqB o p s ks).length) : rqV ((rqB o p s ks).take k) = (ClV.zero, 3) := by
  have hm := rqB_max h
  refine rqV_code (by simp; omega) fun x hx he => ?_
  have := rq_prefix hx h (l := (rqB o p s ks).drop k) (by rw [he, List.take_append_drop])
  have h2 := congrArg List.length this
  simp at h2
  omega
theorem rqV_more {o : Nat} {p s : Int} {ks l : List Nat} (h : rqC o p s ks.length = 0) (hl : (rqB o p s ks).length + l.length ≤ 4096) (h0 : 0 < l.length) : rqV (rqB o p s ks ++ l) = (ClV.zero, 3) := by
  refine rqV_code (by simp; omega) fun x hx he => ?_
  have := rq_prefix h hx (l := l) he
  subst this
  simp at h0
theorem rq_one {o o' : Nat} {p s p' s' : Int} {ks ks' : List Nat} (h : rqC o p s ks.length = 0) (h' : rqC o' p' s' ks'.length = 0) : decide (rqB o p s ks = rqB o' p' s' ks') = eqC (usedV ⟨o, p, s, ks⟩) (usedV ⟨o', p', s', ks'⟩) := by
  rw [Bool.eq_iff_iff, eqC_iff, decide_eq_true_iff]
  constructor
  · intro e
    have h1 := rqV_self h
    rw [e, rqV_self h'] at h1
    exact (congrArg Prod.fst h1).symm
  · intro e
    rw [← (rqC_used h).2, ← (rqC_used h').2, e]
end Go.Proofs.Ytndgladfcogiiaa


/- used, with its slice told. -/
namespace Go.Proofs.Ytndgladfcogiiaa
open Go.RowKit
set_option maxRecDepth 100000
set_option linter.unusedVariables false
set_option maxHeartbeats 400000

def uA (o : Nat) (A : Option Addr) : Option Addr := if 4 < o then none else A
def uN (o n : Nat) : Nat := if 4 < o then 0 else n
def UsD (w : World) (x : ClV) (A : Option Addr) (n c : Nat) (e : Ending) (w' : World) : Prop :=
  e = .returned (ClA (usedV x).o (usedV x).p (uA x.o A) (uN x.o n) (uN x.o c) (usedV x).s) ∧ Below w.heap.size w w'
theorem us_retD {w wf : World} {x : ClV} {o : Nat} {p s : Int} {A UA : Option Addr} {n c un uc : Nat} {ks : List Nat} (hx : usedV x = ⟨o, p, s, ks⟩) (tmps : Array Value) (hb : BlkL wf (w.heap.size + 1) (clB o p UA un uc s)) (t2 : tmps[2]? = some (.pointer (some ⟨w.heap.size + 1, 0, none⟩)))
    (hu : UA = uA x.o A ∧ un = uN x.o n ∧ uc = uN x.o c) (ho : Below w.heap.size w wf) : bodyPost Try.prog Try.f48 (UsD w x A n c) Exit.ret { tmps := tmps, defers := [] } wf := by
  have c0 := hb.cell 0 _ rfl
  have c1 := hb.cell 1 _ rfl
  have c2 := hb.cell 2 _ rfl
  have c3 := hb.cell 3 _ rfl
  exact bodyPost_ret (v := ClA o p UA un uc s) (by simp [results, Try.results48, go_sem, t2, c0, c1, c2, c3]) rfl ⟨by rw [hx, ← hu.1, ← hu.2.1, ← hu.2.2], ho⟩
theorem used_det (w : World) (B o : Nat) (p s : Int) (A : Option Addr) (n c : Nat) (ks : List Nat) (h : Arg w B A n c ks) (hB : B ≤ w.heap.size) : Calls Try.prog 48 #[ClA o p A n c s] w (UsD w ⟨o, p, s, ks⟩ A n c) := by
  have HA := Lib.hid h
  have HB := Lib.hid hB
  have K := (clK w o p A n c s).alloc (.cells #[.int .u8 0, .int .i64 0, .slice none 0 0, .int .i64 0] 71)
  have c0 := K.cell 0 _ rfl
  have c1 := K.cell 1 _ rfl
  have c2 := K.cell 2 _ rfl
  have c3 := K.cell 3 _ rfl
  have f3 := K.froz 3 (by simp)
  have l0 := K.lt
  clear K h hB
  by_cases h4 : 4 < o
  · have d1 : decide ((4 : Int) < (o : Int)) = true := by simp; omega
    have HX : Hid (usedV ⟨o, p, s, ks⟩ = ⟨o, 0, 0, []⟩) := Lib.hid (used_5 o p s ks h4)
    go_enter Try.func48, Try.ntmps48
    go_wp2
    exact us_retD HX.out _ (usW_k w o p A n c s o 0 none 0 0 0) rfl (by unfold uN uA; dsimp only; rw [if_pos h4, if_pos h4, if_pos h4]; exact ⟨rfl, rfl, rfl⟩) (usW_b w o p A n c s o 0 none 0 0 0)
  · have d1 : decide ((4 : Int) < (o : Int)) = false := by simp; omega
    by_cases h2 : o = 2 ∨ o = 4
    · have HX : Hid (usedV ⟨o, p, s, ks⟩ = ⟨o, p, 0, ks⟩) := Lib.hid (used_2 o p s ks h2)
      rcases h2 with rfl | rfl
      · go_enter Try.func48, Try.ntmps48
        go_wp2_with fail
        exact us_retD (x := ⟨2, p, s, ks⟩) HX.out _ (usW_k w 2 p A n c 0 2 p A n c 0) rfl (by unfold uN uA; dsimp only; rw [if_neg (by omega), if_neg (by omega), if_neg (by omega)]; exact ⟨rfl, rfl, rfl⟩) (usW_b w 2 p A n c 0 2 p A n c 0)
      · go_enter Try.func48, Try.ntmps48
        go_wp2_with fail
        exact us_retD (x := ⟨4, p, s, ks⟩) HX.out _ (usW_k w 4 p A n c 0 4 p A n c 0) rfl (by unfold uN uA; dsimp only; rw [if_neg (by omega), if_neg (by omega), if_neg (by omega)]; exact ⟨rfl, rfl, rfl⟩) (usW_b w 4 p A n c 0 4 p A n c 0)
    · have HX : Hid (usedV ⟨o, p, s, ks⟩ = ⟨o, p, s, ks⟩) := Lib.hid (by unfold usedV; dsimp only; rw [if_neg h4, if_neg h2])
      have e2 : ((o : Int) == 2) = false := by simp; omega
      have e4 : ((o : Int) == 4) = false := by simp; omega
      go_enter Try.func48, Try.ntmps48
      go_wp2
      exact us_retD HX.out _ (usW_k w o p A n c s o p A n c s) rfl (by unfold uN uA; dsimp only; rw [if_neg (by omega), if_neg (by omega), if_neg (by omega)]; exact ⟨rfl, rfl, rfl⟩) (usW_b w o p A n c s o p A n c s)
theorem uA_arg {w : World} {B o n c : Nat} {p s : Int} {A : Option Addr} {ks : List Nat} (h : Arg w B A n c ks) : Arg w B (uA o A) (uN o n) (uN o c) (usedV ⟨o, p, s, ks⟩).ks := by
  by_cases h4 : 4 < o
  · rw [used_5 o p s ks h4]
    unfold uA uN
    rw [if_pos h4, if_pos h4, if_pos h4]
    exact Arg.nil _ _
  · have : (usedV ⟨o, p, s, ks⟩).ks = ks := by
      unfold usedV
      dsimp only
      rw [if_neg h4]
      split <;> rfl
    rw [this]
    unfold uA uN
    rw [if_neg h4, if_neg h4, if_neg h4]
    exact h
end Go.Proofs.Ytndgladfcogiiaa


/- The law WireOne: its walk. -/
namespace Go.Proofs.Ytndgladfcogiiaa
open Go.RowKit
set_option maxRecDepth 100000
set_option linter.unusedVariables false

/-- The bytes of a call, none where it is wrong. -/
def rqM (x : ClV) : List Nat := if rqC x.o x.p x.s x.ks.length = 0 then rqB x.o x.p x.s x.ks else []
theorem request_m (w : World) (B : Nat) (x : ClV) (A : Option Addr) (n c : Nat) (h : Arg w B A n c x.ks) (hB : B ≤ w.heap.size) (f : Int) (hf : rqC x.o x.p x.s x.ks.length = f) : Calls Try.prog 44 #[ClA x.o x.p A n c x.s] w fun e w' =>
    ∃ XA xc, e = .returned (.tuple #[.slice XA (rqM x).length xc, .int .i64 f]) ∧ Arg w' w'.heap.size XA (rqM x).length xc (rqM x) ∧ Below w.heap.size w w' := by
  subst hf
  refine (request_any w B x.o x.p x.s A n c x.ks h hB).mono ?_
  rintro e w' ⟨XA, xn, xc, he, ha, hb⟩
  have ha' : Arg w' w'.heap.size XA xn xc (rqM x) := ha
  have hl := ha'.len
  subst hl
  exact ⟨XA, xc, he, ha', hb⟩
structure OnP (w : World) (x y : ClV) (A A' : Option Addr) (n c n' c' : Nat) (PA QA : Option Addr) (pc qc : Nat) (L M : List Nat) (MA : Option Addr) (m mc : Nat) (zs : List Nat) (wu : World) : Prop where
  a : BlkL wu w.heap.size (clB x.o x.p A n c x.s)
  b : BlkL wu (w.heap.size + 1) (clB y.o y.p A' n' c' y.s)
  ka : Arg wu wu.heap.size A n c x.ks
  kb : Arg wu wu.heap.size A' n' c' y.ks
  pa : Arg wu wu.heap.size PA L.length pc L
  qa : Arg wu wu.heap.size QA M.length qc M
  mo : Arg wu wu.heap.size MA m mc zs
  bl : Below w.heap.size w wu
section
variable {w wu wv : World} {x y : ClV} {A A' PA QA MA : Option Addr} {n c n' c' pc qc m mc : Nat} {L M zs : List Nat}
theorem OnP.step (h : OnP w x y A A' n c n' c' PA QA pc qc L M MA m mc zs wu) (hb : Below wu.heap.size wu wv) : OnP w x y A A' n c n' c' PA QA pc qc L M MA m mc zs wv :=
  ⟨h.a.below hb, h.b.below hb, (h.ka.below hb).more hb.size, (h.kb.below hb).more hb.size, (h.pa.below hb).more hb.size, (h.qa.below hb).more hb.size, (h.mo.below hb).more hb.size, h.bl.trans (hb.mono h.bl.size)⟩
theorem OnP.sb (h : OnP w x y A A' n c n' c' PA QA pc qc L M MA m mc zs wu) (r : Bool) (hr : decide (L = M) = r) : Calls Try.prog 23 #[.slice PA L.length pc, .slice QA M.length qc] wu fun e w' => e = .returned (.bool r) ∧ OnP w x y A A' n c n' c' PA QA pc qc L M MA m mc zs w' := by
  refine (same_any wu _ _ PA QA _ pc _ qc L M r hr h.pa h.qa).mono ?_
  rintro e w' ⟨he, t, rfl⟩
  exact ⟨he, h.step (below_drewN (Below.refl _ _) t)⟩
theorem OnP.ua (h : OnP w x y A A' n c n' c' PA QA pc qc L M MA m mc zs wu) : Calls Try.prog 48 #[ClA x.o x.p A n c x.s] wu fun e w' => e = .returned (ClA (usedV x).o (usedV x).p (uA x.o A) (uN x.o n) (uN x.o c) (usedV x).s) ∧ OnP w x y A A' n c n' c' PA QA pc qc L M MA m mc zs w' := by
  refine (used_det wu _ x.o x.p x.s A n c x.ks h.ka (Nat.le_refl _)).mono ?_
  rintro e w' ⟨he, hb⟩
  exact ⟨he, h.step hb⟩
theorem OnP.ub (h : OnP w x y A A' n c n' c' PA QA pc qc L M MA m mc zs wu) : Calls Try.prog 48 #[ClA y.o y.p A' n' c' y.s] wu fun e w' => e = .returned (ClA (usedV y).o (usedV y).p (uA y.o A') (uN y.o n') (uN y.o c') (usedV y).s) ∧ OnP w x y A A' n c n' c' PA QA pc qc L M MA m mc zs w' := by
  refine (used_det wu _ y.o y.p y.s A' n' c' y.ks h.kb (Nat.le_refl _)).mono ?_
  rintro e w' ⟨he, hb⟩
  exact ⟨he, h.step hb⟩
theorem OnP.sm (h : OnP w x y A A' n c n' c' PA QA pc qc L M MA m mc zs wu) (r : Bool) (hr : eqC (usedV x) (usedV y) = r) : Calls Try.prog 47 #[ClA (usedV x).o (usedV x).p (uA x.o A) (uN x.o n) (uN x.o c) (usedV x).s, ClA (usedV y).o (usedV y).p (uA y.o A') (uN y.o n') (uN y.o c') (usedV y).s] wu fun e w' => e = .returned (.bool r) ∧ OnP w x y A A' n c n' c' PA QA pc qc L M MA m mc zs w' := by
  have ha : Arg wu wu.heap.size (uA x.o A) (uN x.o n) (uN x.o c) (usedV x).ks := uA_arg (p := x.p) (s := x.s) h.ka
  have hb : Arg wu wu.heap.size (uA y.o A') (uN y.o n') (uN y.o c') (usedV y).ks := uA_arg (p := y.p) (s := y.s) h.kb
  refine (same21_any wu _ _ _ _ _ _ _ _ (usedV x) (usedV y) r hr ha hb (Nat.le_refl _) (Nat.le_refl _)).mono ?_
  rintro e w' ⟨he, hb⟩
  exact ⟨he, h.step hb⟩
theorem OnP.drew (h : OnP w x y A A' n c n' c' PA QA pc qc L M MA m mc zs wu) : OnP w x y A A' n c n' c' PA QA pc qc L M MA m mc zs wu.drew := h.step (Below.refl _ _).drew
end
end Go.Proofs.Ytndgladfcogiiaa


/- Own lists of elements of several cells, that begin anywhere in their block: appends, stores, the rest behind the first one. -/
namespace Go.Proofs.Ytndgladfcogiiaa
open Go.RowKit
set_option maxRecDepth 100000
set_option linter.unusedVariables false

structure OwnS (w : World) (B k : Nat) (A : Option Addr) (n c : Nat) (vs : List Value) : Prop where
  len : vs.length = n * k
  le : n ≤ c
  cap : c ≤ maxLen
  none_ : A = none → n = 0 ∧ c = 0
  at_ : ∀ a, A = some a → a = ⟨a.block, a.off, none⟩ ∧ B ≤ a.block ∧ a.block < w.heap.size ∧
    (∀ j, j < c * k → (w.cell? ⟨a.block, a.off + j, none⟩).isSome = true ∧ w.frozen? ⟨a.block, a.off + j, none⟩ = false) ∧ ∀ j v, vs[j]? = some v → w.cell? ⟨a.block, a.off + j, none⟩ = some v
section
variable {w w' : World} {B B' k n c : Nat} {A : Option Addr} {vs : List Value} {S : List Nat}
theorem OwnS.nil (w : World) (B k : Nat) : OwnS w B k none 0 0 [] := ⟨by simp, Nat.le_refl _, by unfold maxLen; omega, fun _ => ⟨rfl, rfl⟩, fun a h => by cases h⟩
theorem OwnS.off (h : OwnS w B k A n c vs) (hf : Off S w w') (hS : ∀ y ∈ bkV A, y ∉ S) : OwnS w' B k A n c vs := by
  refine ⟨h.len, h.le, h.cap, h.none_, fun a ha => ?_⟩
  obtain ⟨h1, h2, h3, h4, h5⟩ := h.at_ a ha
  have hn : a.block ∉ S := hS _ (by rw [ha]; simp [bkV])
  refine ⟨h1, h2, Nat.lt_of_lt_of_le h3 hf.size, fun j hj => ?_, fun j v hj => ?_⟩
  · rw [hf.cell (p := ⟨a.block, a.off + j, none⟩) h3 hn, hf.frozen (p := ⟨a.block, a.off + j, none⟩) h3 hn]; exact h4 j hj
  · rw [hf.cell (p := ⟨a.block, a.off + j, none⟩) h3 hn]; exact h5 j v hj
theorem OwnS.below (h : OwnS w B k A n c vs) (hb : Below w.heap.size w w') : OwnS w' B k A n c vs := h.off (S := []) (Off.of_below hb) (by simp)
theorem OwnS.mono (h : OwnS w B k A n c vs) (hB : B' ≤ B) : OwnS w B' k A n c vs :=
  ⟨h.len, h.le, h.cap, h.none_, fun a ha => by obtain ⟨h1, h2, h3⟩ := h.at_ a ha; exact ⟨h1, by omega, h3⟩⟩
theorem OwnS.lt (h : OwnS w B k A n c vs) : ∀ y ∈ bkV A, B ≤ y ∧ y < w.heap.size := by
  intro y hy
  cases hA : A with
  | none => rw [hA] at hy; simp [bkV] at hy
  | some a =>
    rw [hA] at hy
    simp only [bkV, List.mem_cons, List.not_mem_nil, or_false] at hy
    subst hy
    have := h.at_ a hA
    exact ⟨this.2.1, this.2.2.1⟩
theorem OwnS.cell (h : OwnS w B k A n c vs) (hn : 0 < n) : ∃ b off, A = some ⟨b, off, none⟩ ∧ B ≤ b ∧ b < w.heap.size ∧ (∀ j v, vs[j]? = some v → w.cell? ⟨b, off + j, none⟩ = some v) ∧ ∀ j, j < n * k → w.frozen? ⟨b, off + j, none⟩ = false := by
  cases hA : A with
  | none => have := h.none_ hA; omega
  | some a =>
    obtain ⟨h1, h2, h3, h4, h5⟩ := h.at_ a hA
    exact ⟨a.block, a.off, by rw [h1], h2, h3, h5, fun j hj => (h4 j (Nat.lt_of_lt_of_le hj (Nat.mul_le_mul_right _ h.le))).2⟩
/-- A store. -/
theorem OwnS.set {b off : Nat} (h : OwnS w B k (some ⟨b, off, none⟩) n c vs) (j : Nat) (v : Value) (hj : j < n * k) : OwnS (w.setCell ⟨b, off + j, none⟩ v) B k (some ⟨b, off, none⟩) n c (vs.set j v) := by
  refine ⟨by simpa using h.len, h.le, h.cap, (fun e => by cases e), fun a ha => ?_⟩
  injection ha with ha
  subst ha
  obtain ⟨h1, h2, h3, h4, h5⟩ := h.at_ _ rfl
  have hl : n * k ≤ c * k := Nat.mul_le_mul_right _ h.le
  have hln := h.len
  obtain ⟨u, hu⟩ := Option.isSome_iff_exists.1 (h4 j (by omega)).1
  refine ⟨rfl, h2, by simpa using h3, fun i hi => ⟨?_, by simpa using (h4 i hi).2⟩, fun i x hx => ?_⟩
  · by_cases e : i = j
    · subst e; rw [World.cell?_setCell_same _ _ _ hu]; rfl
    · rw [World.cell?_setCell_other _ _ _ _ (by simp <;> omega)]; exact (h4 i hi).1
  · by_cases e : i = j
    · subst e
      rw [World.cell?_setCell_same _ _ _ hu]
      rw [List.getElem?_set_self (by omega)] at hx
      exact hx
    · rw [List.getElem?_set_ne (Ne.symm e)] at hx
      rw [World.cell?_setCell_other _ _ _ _ (by simp <;> omega)]; exact h5 i x hx
/-- The rest behind the first one. -/
theorem OwnS.tail {b off : Nat} (h : OwnS w B k (some ⟨b, off, none⟩) (n + 1) (c + 1) vs) : OwnS w B k (some ⟨b, off + k, none⟩) n c (vs.drop k) := by
  refine ⟨by rw [List.length_drop, h.len, Nat.succ_mul]; omega, by have := h.le; omega, by have := h.cap; omega, (fun e => by cases e), fun a ha => ?_⟩
  injection ha with ha
  subst ha
  obtain ⟨h1, h2, h3, h4, h5⟩ := h.at_ _ rfl
  refine ⟨rfl, h2, h3, fun j hj => ?_, fun j v hj => ?_⟩
  · have := h4 (k + j) (by rw [Nat.succ_mul]; omega)
    simpa [Nat.add_assoc] using this
  · have := h5 (k + j) v (by rw [List.getElem?_drop] at hj; exact hj)
    simpa [Nat.add_assoc] using this
/-- What is read by an append: cells, wherever they lie; or nothing. -/
structure SrcS (w : World) (k : Nat) (S : Option Addr) (m : Nat) (ts : List Value) : Prop where
  len : ts.length = m * k
  none_ : S = none → m = 0
  at_ : ∀ ad, S = some ad → ∀ j u, ts[j]? = some u → w.cell? (ad.add j) = some u
  one : ∀ u ∈ ts, u.oneCell' = true
theorem OwnS.src (h : OwnS w B k A n c vs) (h1 : ∀ u ∈ vs, u.oneCell' = true) : SrcS w k A n vs :=
  ⟨h.len, fun e => (h.none_ e).1, fun ad e j u hj => by
    obtain ⟨a1, a2, a3, a4, a5⟩ := h.at_ ad e
    rw [a1, add_litV]; exact a5 j u hj, h1⟩
theorem BlkL.srcS {p : Nat} {ts : List Value} (h : BlkL w p ts) (h1 : ∀ u ∈ ts, u.oneCell' = true) (m : Nat) (hm : ts.length = m * k) : SrcS w k (some ⟨p, 0, none⟩) m ts :=
  ⟨hm, (fun e => by cases e), fun ad e j u hj => by injection e with e; subst e; rw [add_litV, Nat.zero_add]; exact h.cell j u hj, h1⟩
/-- An append of some. -/
theorem append_gs {P : Program} {Ts T : TypeId} {i0 : TypeInfo} {z : Value} {bts : Nat} (hu : P.underlying Ts = some (.slice T)) (hi : P.info? T = some i0) (hz0 : i0.zero = some z) (hz1 : i0.size = k) (hz2 : i0.bytes = bts) (hzc : z.cells.size = k)
    (hown : OwnS w B k A n c vs) (ad : Addr) (m cm : Nat) (ts : List Value) (hm : ts.length = m * k) (hnews : ∀ j u, ts[j]? = some u → w.cell? (ad.add j) = some u) (h1 : ∀ u ∈ ts, u.oneCell' = true) (hm0 : 0 < m) (hb : 1 ≤ bts) (hn : (n + m) * bts ≤ 140737488355328) (hB : B ≤ w.heap.size) :
    ∃ A' c' w', (∀ ty, (Builtin.append_ #[Ts, Ts] ty #[.slice A n c, .slice (some ad) m cm]).run P w = .ok (.slice A' (n + m) c') w') ∧ OwnS w' B k A' (n + m) c' (vs ++ ts) ∧ Off (bkV A) w w' ∧ (∀ y ∈ bkV A', y ∈ bkV A ∨ y = w.heap.size ∧ y < w'.heap.size) := by
  have hcp := hown.cap
  have hle := hown.le
  have hzl := hown.len
  unfold maxLen at hcp
  have hnm : n + m ≤ 140737488355328 := Nat.le_trans (Nat.le_mul_of_pos_right _ hb) hn
  have hl : ts.length = m * i0.size := by rw [hz1, hm]
  have hadd : (n + m) * k = n * k + m * k := Nat.add_mul _ _ _
  have grown : ∀ (old : Nat), n + m ≤ grownCap w (n + m) old T ∧ grownCap w (n + m) old T ≤ maxLen ∧
      OwnS (w.drew.alloc (.cells (vs.toArray ++ ts.toArray ++ Builtin.zeroCells z.cells (grownCap w (n + m) old T - (n + m))) T)) B k (some ⟨w.heap.size, 0, none⟩) (n + m) (grownCap w (n + m) old T) (vs ++ ts) := by
    intro old
    have g1 := grownCap_ge w (n + m) old T
    have g2 := grownCap_le_maxLen w (n + m) old T (by unfold maxLen; omega)
    have g3 : (grownCap w (n + m) old T - (n + m)) * k = grownCap w (n + m) old T * k - (n + m) * k := Nat.sub_mul _ _ _
    refine ⟨g1, g2, ⟨by simp [hzl, hm, hadd], g1, g2, fun e => by simp at e, fun b hb => ?_⟩⟩
    injection hb with hb
    subst hb
    have hblk : (w.drew.alloc (.cells (vs.toArray ++ ts.toArray ++ Builtin.zeroCells z.cells (grownCap w (n + m) old T - (n + m))) T)).heap[w.heap.size]? = _ := heap_alloc_new w.drew _
    refine ⟨rfl, hB, by simp, fun j hj => ⟨?_, frozen_of_row _ _ _ _ _ hblk⟩, fun j v hj => ?_⟩
    · show (World.cell? _ ⟨w.heap.size, 0 + j, none⟩).isSome = true
      rw [Nat.zero_add, cell_of_row _ _ _ _ _ (0, 0) hblk]
      rw [Array.getElem?_eq_getElem (by simp [size_zeroCells, hzl, hm, hzc]; rw [g3]; omega)]
      rfl
    · show World.cell? _ ⟨w.heap.size, 0 + j, none⟩ = _
      rw [Nat.zero_add, cell_of_row _ _ _ _ _ (0, 0) hblk, ← Array.getElem?_toList]
      simp only [Array.toList_append]
      have hjl : j < (vs ++ ts).length := (List.getElem?_eq_some_iff.1 hj).1
      rw [List.getElem?_append_left (by simpa using hjl)]
      exact hj
  cases A with
  | none =>
    obtain ⟨rfl, rfl⟩ := hown.none_ rfl
    obtain rfl : vs = [] := List.eq_nil_of_length_eq_zero (by rw [hzl]; simp)
    obtain ⟨g1, g2, g3⟩ := grown 0
    simp only [Nat.zero_add] at g1 g2 g3 hn hnm
    refine ⟨_, _, _, fun ty => by simpa using run_append_nil (P := P) w Ts ty T i0 z hu hi hz0 ad m cm _ hl hnews (by omega) (by omega) (by rw [hz2]; omega), ?_, ?_, ?_⟩
    · simpa using g3
    · exact ⟨rfl, rfl, rfl, by simp, fun k hk _ => heap_alloc_old w.drew _ hk⟩
    · intro y hy; simp [bkV] at hy; exact .inr ⟨hy, by rw [hy]; simp⟩
  | some b =>
    obtain ⟨b1, b2, b3, b4, b5⟩ := hown.at_ b rfl
    obtain ⟨bb, bo, bs⟩ := b
    simp only [Addr.mk.injEq, true_and] at b1
    subst b1
    simp only at b2 b3 b4 b5
    by_cases hroom : n + m ≤ c
    · have hrm : n * k + m * k ≤ c * k := by rw [← hadd]; exact Nat.mul_le_mul_right _ hroom
      refine ⟨some ⟨bb, bo, none⟩, c, w.setCells bb (bo + n * k) ts, fun ty => ?_, ?_, ?_, ?_⟩
      · have hf := run_firstCells_some (P := P) w i0.size m ad m cm _ hl hnews
        have hst := run_storeCells_cells (P := P) bb (bo + n * k) ts 0 w (fun j hj => by
          have := (b4 (n * k + j) (by omega)).1
          rwa [show bo + n * k + 0 + j = bo + (n * k + j) by omega]) (fun j hj => by
          have := (b4 (n * k + j) (by omega)).2
          rwa [show bo + n * k + 0 + j = bo + (n * k + j) by omega]) h1
        have ea : (⟨bb, bo, none⟩ : Addr).add (n * i0.size) = ⟨bb, bo + n * k, none⟩ := by rw [hz1, add_litV]
        simp [Builtin.append_, run_underlying hu, sizeOf, typeInfo, hi, Builtin.lenOf, hroom, hf, ea, hst]
      · refine ⟨by simp [hzl, hm, hadd], hroom, hown.cap, fun e => by simp at e, fun b hb => ?_⟩
        injection hb with hb
        subst hb
        refine ⟨rfl, b2, ?_, fun j hj => ?_, fun j v hj => ?_⟩
        · exact Nat.lt_of_lt_of_le b3 ((Off.refl [bb] w).setCells (by simp) ts (bo + n * k)).size
        · show (World.cell? _ ⟨bb, bo + j, none⟩).isSome = true ∧ World.frozen? _ ⟨bb, bo + j, none⟩ = false
          refine ⟨?_, by rw [World.frozen?_setCells]; exact (b4 j hj).2⟩
          rcases Nat.lt_or_ge j (n * k) with h | h
          · rw [World.cell?_setCells_out _ _ _ _ _ (fun _ _ => .inl (by simp; omega))]; exact (b4 j hj).1
          · rcases Nat.lt_or_ge j (n * k + m * k) with h' | h'
            · have := World.cell?_setCells_in bb ts (bo + n * k) w (fun i hk => by
                have := (b4 (n * k + i) (by omega)).1
                rwa [show bo + n * k + i = bo + (n * k + i) by omega]) (j - n * k) (by omega)
              rw [show bo + n * k + (j - n * k) = bo + j by omega] at this
              rw [this]; rfl
            · rw [World.cell?_setCells_out _ _ _ _ _ (fun _ _ => .inr (by simp; omega))]; exact (b4 j hj).1
        · show World.cell? _ ⟨bb, bo + j, none⟩ = _
          have hjl : j < (vs ++ ts).length := (List.getElem?_eq_some_iff.1 hj).1
          rw [List.length_append, hzl, hm] at hjl
          rcases Nat.lt_or_ge j (n * k) with h | h
          · rw [World.cell?_setCells_out _ _ _ _ _ (fun _ _ => .inl (by simp; omega))]
            rw [List.getElem?_append_left (by omega)] at hj
            exact b5 j v hj
          · have := World.cell?_setCells_in bb ts (bo + n * k) w (fun i hk => by
              have := (b4 (n * k + i) (by omega)).1
              rwa [show bo + n * k + i = bo + (n * k + i) by omega]) (j - n * k) (by omega)
            rw [show bo + n * k + (j - n * k) = bo + j by omega] at this
            rw [this]
            rw [List.getElem?_append_right (by omega), hzl, List.getElem?_eq_getElem (by omega)] at hj
            exact hj
      · exact (Off.refl _ _).setCells (by simp [bkV]) _ _
      · intro y hy; exact .inl hy
    · obtain ⟨g1, g2, g3⟩ := grown c
      have hold : ∀ j v, vs[j]? = some v → w.cell? ((⟨bb, bo, none⟩ : Addr).add j) = some v := fun j v hv => by
        rw [add_litV]; exact b5 j v hv
      refine ⟨_, _, _, fun ty => run_append_grow (P := P) w Ts ty T i0 z hu hi hz0 ⟨bb, bo, none⟩ n c vs (by rw [hz1, hzl]) hold ad m cm _ hl hnews (by omega) (by omega) (growslice_fits (by omega) (by rw [hz2]; exact hn)), g3, ⟨rfl, rfl, rfl, by simp, fun k hk _ => heap_alloc_old w.drew _ hk⟩, ?_⟩
      intro y hy; simp [bkV] at hy; exact .inr ⟨hy, by rw [hy]; simp⟩
theorem append_alls {P : Program} {Ts T : TypeId} {i0 : TypeInfo} {z : Value} {bts : Nat} (hu : P.underlying Ts = some (.slice T)) (hi : P.info? T = some i0) (hz0 : i0.zero = some z) (hz1 : i0.size = k) (hz2 : i0.bytes = bts) (hzc : z.cells.size = k)
    (hown : OwnS w B k A n c vs) (S : Option Addr) (m cm : Nat) (ts : List Value) (hs : SrcS w k S m ts) (hcm : S = none → cm = 0) (hb : 1 ≤ bts) (hn : (n + m) * bts ≤ 140737488355328) (hB : B ≤ w.heap.size) :
    ∃ A' c' w', (∀ ty, (Builtin.append_ #[Ts, Ts] ty #[.slice A n c, .slice S m cm]).run P w = .ok (.slice A' (n + m) c') w') ∧ OwnS w' B k A' (n + m) c' (vs ++ ts) ∧ Off (bkV A) w w' ∧ (∀ y ∈ bkV A', y ∈ bkV A ∨ y = w.heap.size ∧ y < w'.heap.size) := by
  have hle := hown.le
  by_cases hm0 : 0 < m
  · cases S with
    | none => have := hs.none_ rfl; omega
    | some ad => exact append_gs hu hi hz0 hz1 hz2 hzc hown ad m cm ts hs.len (hs.at_ ad rfl) hs.one hm0 hb hn hB
  · obtain rfl : m = 0 := by omega
    obtain rfl : ts = [] := List.eq_nil_of_length_eq_zero (by rw [hs.len]; simp)
    refine ⟨A, c, w, fun ty => ?_, by simpa using hown, Off.refl _ _, fun y hy => .inl hy⟩
    cases S with
    | none =>
      obtain rfl := hcm rfl
      cases A with
      | none =>
        obtain ⟨rfl, rfl⟩ := hown.none_ rfl
        simp [Builtin.append_, run_underlying hu, sizeOf, typeInfo, hi, Builtin.lenOf, Builtin.firstCells]
      | some b => simp [Builtin.append_, run_underlying hu, sizeOf, typeInfo, hi, Builtin.lenOf, Builtin.firstCells, hle, storeCells]
    | some ad =>
      have hf := run_firstCells_some (P := P) w i0.size 0 ad 0 cm [] (by simp) (fun j u hj => by simp at hj)
      cases A with
      | none =>
        obtain ⟨rfl, rfl⟩ := hown.none_ rfl
        simp [Builtin.append_, run_underlying hu, sizeOf, typeInfo, hi, Builtin.lenOf, hf]
      | some b => simp [Builtin.append_, run_underlying hu, sizeOf, typeInfo, hi, Builtin.lenOf, hle, hf, storeCells]
theorem wpList_append_s {P : Program} {ops : Array Oper} {rest : List Oper} {o : Oper} {a : Act} {Q : Exit → Act → World → Prop} {Ts T : TypeId} {i0 : TypeInfo} {z : Value} {bts : Nat}
    (hu : P.underlying Ts = some (.slice T)) (hi : P.info? T = some i0) (hz0 : i0.zero = some z) (hz1 : i0.size = k) (hz2 : i0.bytes = bts) (hzc : z.cells.size = k) (hgd : o.guard = none) (s x : Operand)
    (ho : o.op = .call { callee := .builtin .append, args := #[s, x], argTypes := #[Ts, Ts] })
    (hs : a.eval s = .slice A n c) (hown : OwnS w B k A n c vs) (S : Option Addr) (m cm : Nat) (ts : List Value) (hx : a.eval x = .slice S m cm) (hsrc : SrcS w k S m ts) (hcm : S = none → cm = 0) (hb : 1 ≤ bts) (hn : (n + m) * bts ≤ 140737488355328) (hB : B ≤ w.heap.size)
    (h : ∀ A' c' w', OwnS w' B k A' (n + m) c' (vs ++ ts) → Off (bkV A) w w' → (∀ y ∈ bkV A', y ∈ bkV A ∨ y = w.heap.size ∧ y < w'.heap.size) → wpList P ops Q rest (a.put o.dst (.slice A' (n + m) c')) w') : wpList P ops Q (o :: rest) a w := by
  refine wpList_plain hgd fun K hK => ?_
  obtain ⟨A', c', w', hr, k1, k2, k3⟩ := append_alls hu hi hz0 hz1 hz2 hzc hown S m cm ts hsrc hcm hb hn hB
  have hr' := hr o.type
  unfold Oper.wp execOp
  simp only [ho, resolve, invoke, builtin, Sem.run_bind, Sem.run_pure, Result.andThen_ok, List.map_toArray, List.map_cons, List.map_nil, hs, hx, hr']
  exact hK _ _ (h A' c' w' k1 k2 k3)
theorem step_append_s {P : Program} {ops : Array Oper} {o : Oper} {a : Act} {K : Act → World → Prop} {Q : Exit → Act → World → Prop} {E : Prop} {Ts T : TypeId} {i0 : TypeInfo} {z : Value} {bts : Nat}
    (hu : P.underlying Ts = some (.slice T)) (hi : P.info? T = some i0) (hz0 : i0.zero = some z) (hz1 : i0.size = k) (hz2 : i0.bytes = bts) (hzc : z.cells.size = k) (hgd : o.guard = none) (s x : Operand)
    (ho : o.op = .call { callee := .builtin .append, args := #[s, x], argTypes := #[Ts, Ts] })
    (hs : a.eval s = .slice A n c) (hown : OwnS w B k A n c vs) (S : Option Addr) (m cm : Nat) (ts : List Value) (hx : a.eval x = .slice S m cm) (hsrc : SrcS w k S m ts) (hcm : S = none → cm = 0) (hb : 1 ≤ bts) (hn : (n + m) * bts ≤ 140737488355328) (hB : B ≤ w.heap.size)
    (h : ∀ A' c' w', OwnS w' B k A' (n + m) c' (vs ++ ts) → Off (bkV A) w w' → (∀ y ∈ bkV A', y ∈ bkV A ∨ y = w.heap.size ∧ y < w'.heap.size) → K (a.put o.dst (.slice A' (n + m) c')) w') :
    if Region.wanted o (yielded ops a.tmps) = true then Oper.wp P o a w K Q else E := by
  have hw : Region.wanted o (yielded ops a.tmps) = true := by simp [Region.wanted, hgd]
  rw [if_pos hw]
  obtain ⟨A', c', w', hr, k1, k2, k3⟩ := append_alls hu hi hz0 hz1 hz2 hzc hown S m cm ts hsrc hcm hb hn hB
  have hr' := hr o.type
  unfold Oper.wp execOp
  simp only [ho, resolve, invoke, builtin, Sem.run_bind, Sem.run_pure, Result.andThen_ok, List.map_toArray, List.map_cons, List.map_nil, hs, hx, hr']
  exact h A' c' w' k1 k2 k3
end
end Go.Proofs.Ytndgladfcogiiaa


/- A connection in memory. -/
namespace Go.Proofs.Ytndgladfcogiiaa
open Go.RowKit
set_option maxRecDepth 100000
set_option linter.unusedVariables false

/-- A call that lies in memory. -/
structure ClR where
  o : Nat
  p : Int
  s : Int
  A : Option Addr
  c : Nat
  ks : List Nat
abbrev ClR.v (r : ClR) : ClV := ⟨r.o, r.p, r.s, r.ks⟩
def ClR.cells (r : ClR) : List Value := clB r.o r.p r.A r.ks.length r.c r.s
def FCl (l : List ClR) : List Value := l.flatMap ClR.cells
/-- A token that lies in memory. -/
structure TkR where
  p : Int
  s : Int
  A : Option Addr
  c : Nat
  ks : List Nat
structure TkV where
  p : Int
  s : Int
  ks : List Nat
abbrev TkR.v (r : TkR) : TkV := ⟨r.p, r.s, r.ks⟩
def TkR.cells (r : TkR) : List Value := [.int .i64 r.p, .slice r.A r.ks.length r.c, .int .i64 r.s]
def FTk (l : List TkR) : List Value := l.flatMap TkR.cells
theorem ClR.len (r : ClR) : r.cells.length = 4 := rfl
theorem TkR.len (r : TkR) : r.cells.length = 3 := rfl
theorem FCl_len (l : List ClR) : (FCl l).length = l.length * 4 := by
  induction l with
  | nil => rfl
  | cons a l ih => simp [FCl, ClR.cells] at *; omega
theorem FTk_len (l : List TkR) : (FTk l).length = l.length * 3 := by
  induction l with
  | nil => rfl
  | cons a l ih => simp [FTk, TkR.cells] at *; omega
theorem FCl_append (l m : List ClR) : FCl (l ++ m) = FCl l ++ FCl m := by unfold FCl; rw [List.flatMap_append]
theorem FTk_append (l m : List TkR) : FTk (l ++ m) = FTk l ++ FTk m := by unfold FTk; rw [List.flatMap_append]
theorem FCl_cons (r : ClR) (l : List ClR) : FCl (r :: l) = r.cells ++ FCl l := rfl
theorem FTk_cons (r : TkR) (l : List TkR) : FTk (r :: l) = r.cells ++ FTk l := rfl
theorem FCl_one (r : ClR) : FCl [r] = r.cells := by simp [FCl]
theorem FTk_one (r : TkR) : FTk [r] = r.cells := by simp [FTk]
theorem ClR.one (r : ClR) : ∀ u ∈ r.cells, u.oneCell' = true := by intro u hu; simp [ClR.cells] at hu; rcases hu with rfl | rfl | rfl | rfl <;> rfl
theorem TkR.one (r : TkR) : ∀ u ∈ r.cells, u.oneCell' = true := by intro u hu; simp [TkR.cells] at hu; rcases hu with rfl | rfl | rfl <;> rfl
theorem FTk_oneC (l : List TkR) : ∀ u ∈ FTk l, u.oneCell' = true := by
  intro u hu
  obtain ⟨r, hr, hu⟩ := List.mem_flatMap.1 hu
  exact r.one u hu
/-- Bytes that are read, and lie outside some blocks. -/
structure KeyOk (w : World) (M : List Nat) (A : Option Addr) (c : Nat) (ks : List Nat) : Prop where
  arg : Arg w w.heap.size A ks.length c ks
  lt : ∀ y ∈ bkV A, y < w.heap.size
  nm : ∀ y ∈ bkV A, y ∉ M
theorem KeyOk.step {w w' : World} {M M' S : List Nat} {A : Option Addr} {c : Nat} {ks : List Nat} (h : KeyOk w M A c ks) (hf : Off S w w') (hS : ∀ y ∈ S, y ∈ M ∨ w.heap.size ≤ y) (hM : ∀ y ∈ M', y ∈ M ∨ w.heap.size ≤ y) : KeyOk w' M' A c ks :=
  ⟨(h.arg.off (Nat.le_refl _) hf (fun y hy hs => (hS y hs).elim (h.nm y hy) (fun hh => by have := h.lt y hy; omega))).more hf.size, fun y hy => Nat.lt_of_lt_of_le (h.lt y hy) hf.size, fun y hy hm => (hM y hm).elim (h.nm y hy) (fun hh => by have := h.lt y hy; omega)⟩
/-- What a connection holds, where it lies. -/
structure CnD where
  rb : Option Nat
  WA : Option Addr
  wn : Nat
  wc : Nat
  ws : List Nat
  LA : Option Addr
  lc : Nat
  rows : List ClR
  fin : Int
  ob : Option (Nat × ClR)
  cl : Bool
  UA : Option Addr
  uc : Nat
  us : List Nat
  HA : Option Addr
  hc : Nat
  toks : List TkR
  rc : Bool := false
def ptV : Option Nat → Value
  | none => .pointer none
  | some b => .pointer (some ⟨b, 0, none⟩)
def rbsD (rb : Option Nat) (WA : Option Addr) : List Nat := match rb with | none => [] | some b => b :: bkV WA
/-- The blocks that a connection writes. -/
def CnD.M (D : CnD) (cb : Nat) : List Nat := cb :: (rbsD D.rb D.WA ++ (bkV D.LA ++ (bkV D.UA ++ bkV D.HA)))
/-- The blocks that it reads alone. -/
def CnD.R (D : CnD) : List Nat := (match D.ob with | none => [] | some q => q.1 :: bkV q.2.A) ++ ((D.rows.flatMap fun r => bkV r.A) ++ (D.toks.flatMap fun t => bkV t.A))
def CnD.cells (D : CnD) : List Value := [ptV D.rb, .slice D.LA D.rows.length D.lc, .int .i64 D.fin, ptV (D.ob.map (·.1)), .bool D.cl, .slice D.UA D.us.length D.uc, .slice D.HA D.toks.length D.hc]
structure CnM (w : World) (B cb : Nat) (D : CnD) : Prop where
  blk : BlkL w cb D.cells
  cbB : B ≤ cb
  rd : ∀ rb, D.rb = some rb → RdM w B rb D.WA D.wn D.wc D.ws D.rc ∧ B ≤ rb
  line : OwnS w B 4 D.LA D.rows.length D.lc (FCl D.rows)
  out : ∀ q, D.ob = some q → BlkL w q.1 q.2.cells ∧ B ≤ q.1 ∧ q.1 ∉ D.M cb ∧ KeyOk w (D.M cb) q.2.A q.2.c q.2.ks
  uns : OwnV w B D.UA D.us.length D.uc (D.us.map V8)
  ub : ∀ d ∈ D.us, d < 256
  held : OwnS w B 3 D.HA D.toks.length D.hc (FTk D.toks)
  kl : ∀ r ∈ D.rows, KeyOk w (D.M cb) r.A r.c r.ks
  kh : ∀ t ∈ D.toks, KeyOk w (D.M cb) t.A t.c t.ks
  nd : (D.M cb).Nodup
section
variable {w w' : World} {B cb : Nat} {D D' : CnD} {S : List Nat}
theorem CnM.lt (h : CnM w B cb D) : ∀ y ∈ D.M cb, B ≤ y ∧ y < w.heap.size := by
  intro y hy
  simp only [CnD.M, List.mem_cons, List.mem_append] at hy
  rcases hy with rfl | hy | hy | hy | hy
  · exact ⟨h.cbB, h.blk.lt⟩
  · unfold rbsD at hy
    split at hy
    · simp at hy
    · rename_i b hb
      obtain ⟨h1, h2⟩ := h.rd b hb
      rcases List.mem_cons.1 hy with rfl | hy
      · exact ⟨h2, h1.blk.lt⟩
      · exact h1.own.lt y hy
  · exact h.line.lt y hy
  · exact h.uns.lt y hy
  · exact h.held.lt y hy
theorem CnM.off (h : CnM w B cb D) (hf : Off S w w') (hM : ∀ y ∈ D.M cb, y ∉ S) (hR : ∀ y ∈ D.R, y ∉ S) : CnM w' B cb D := by
  have key : ∀ {A : Option Addr} {c : Nat} {ks : List Nat}, KeyOk w (D.M cb) A c ks → (∀ y ∈ bkV A, y ∉ S) → KeyOk w' (D.M cb) A c ks := fun k hs =>
    ⟨(k.arg.off (Nat.le_refl _) hf hs).more hf.size, fun y hy => Nat.lt_of_lt_of_le (k.lt y hy) hf.size, k.nm⟩
  have hMM : ∀ y ∈ D.M cb, y ∉ S := hM
  simp only [CnD.M, List.mem_cons, List.mem_append] at hM
  simp only [CnD.R, List.mem_append, List.mem_flatMap] at hR
  refine ⟨h.blk.off hf (hM _ (.inl rfl)), h.cbB, fun rb e => ?_, h.line.off hf (fun y hy => hM y (.inr (.inr (.inl hy)))), fun q e => ?_, h.uns.off hf (fun y hy => hM y (.inr (.inr (.inr (.inl hy))))), h.ub, h.held.off hf (fun y hy => hM y (.inr (.inr (.inr (.inr hy))))),
    fun r hr => key (h.kl r hr) (fun y hy => hR y (.inr (.inl ⟨r, hr, hy⟩))), fun t ht => key (h.kh t ht) (fun y hy => hR y (.inr (.inr ⟨t, ht, hy⟩))), h.nd⟩
  · obtain ⟨h1, h2⟩ := h.rd rb e
    have hh : ∀ y ∈ rb :: bkV D.WA, y ∉ S := fun y hy => hM y (.inr (.inl (by rw [e]; exact hy)))
    exact ⟨h1.off hf (hh rb (by simp)) (fun y hy => hh y (by simp [hy])), h2⟩
  · obtain ⟨h1, h2, h3, h4⟩ := h.out q e
    have hh : ∀ y ∈ q.1 :: bkV q.2.A, y ∉ S := fun y hy => hR y (.inl (by rw [e]; exact hy))
    exact ⟨h1.off hf (hh q.1 (by simp)), h2, h3, key h4 (fun y hy => hh y (by simp [hy]))⟩
theorem CnM.below (h : CnM w B cb D) (hb : Below w.heap.size w w') : CnM w' B cb D := h.off (S := []) (Off.of_below hb) (by simp) (by simp)
theorem CnM.ltR (h : CnM w B cb D) : ∀ y ∈ D.R, y < w.heap.size ∧ y ∉ D.M cb := by
  intro y hy
  simp only [CnD.R, List.mem_append, List.mem_flatMap] at hy
  rcases hy with hy | ⟨r, hr, hy⟩ | ⟨t, ht, hy⟩
  · split at hy
    · simp at hy
    · rename_i q hq
      obtain ⟨h1, h2, h3, h4⟩ := h.out q hq
      rcases List.mem_cons.1 hy with rfl | hy
      · exact ⟨h1.lt, h3⟩
      · exact ⟨h4.lt y hy, h4.nm y hy⟩
  · exact ⟨(h.kl r hr).lt y hy, (h.kl r hr).nm y hy⟩
  · exact ⟨(h.kh t ht).lt y hy, (h.kh t ht).nm y hy⟩
end
/-- One step of a connection: what it writes, what it may hold then. -/
structure Stp (w w' : World) (cb : Nat) (D D' : CnD) : Prop where
  off : Off (D.M cb) w w'
  m : ∀ y ∈ D'.M cb, y ∈ D.M cb ∨ w.heap.size ≤ y
  r : ∀ y ∈ D'.R, y ∈ D.R ∨ w.heap.size ≤ y
theorem Stp.refl (w : World) (cb : Nat) (D : CnD) : Stp w w cb D D := ⟨Off.refl _ _, fun y hy => .inl hy, fun y hy => .inl hy⟩
theorem Stp.trans {w w1 w2 : World} {cb : Nat} {D D1 D2 : CnD} (h : Stp w w1 cb D D1) (k : Stp w1 w2 cb D1 D2) : Stp w w2 cb D D2 :=
  ⟨h.off.new k.off h.m, fun y hy => (k.m y hy).elim (h.m y) (fun e => .inr (Nat.le_trans h.off.size e)), fun y hy => (k.r y hy).elim (h.r y) (fun e => .inr (Nat.le_trans h.off.size e))⟩
theorem Stp.below {w w' : World} {B cb : Nat} {D D' : CnD} (h : Stp w w' cb D D') (hc : CnM w B cb D) (hB : B ≤ w.heap.size) : Below B w w' := h.off.below hB (fun y hy => (hc.lt y hy).1)
theorem Stp.of_below {w w' : World} {cb : Nat} {D : CnD} (hb : Below w.heap.size w w') : Stp w w' cb D D := ⟨Off.of_below hb, fun y hy => .inl hy, fun y hy => .inl hy⟩
/-- One place's blocks change. -/
theorem nodup_upd {l1 a l2 a' : List Nat} {N : Nat} (h : (l1 ++ (a ++ l2)).Nodup) (ha : a'.Nodup) (hs : ∀ y ∈ a', y ∈ a ∨ N ≤ y) (h1 : ∀ y ∈ l1, y < N) (h2 : ∀ y ∈ l2, y < N) : (l1 ++ (a' ++ l2)).Nodup := by
  rw [List.nodup_append] at h ⊢
  obtain ⟨n1, n2, n3⟩ := h
  rw [List.nodup_append] at n2 ⊢
  obtain ⟨m1, m2, m3⟩ := n2
  refine ⟨n1, ⟨ha, m2, fun x hx y hy e => ?_⟩, fun x hx y hy e => ?_⟩
  · subst e
    rcases hs x hx with hh | hh
    · exact m3 x hh x hy rfl
    · have := h2 x hy; omega
  · subst e
    rcases List.mem_append.1 hy with hy | hy
    · rcases hs x hy with hh | hh
      · exact n3 x hx x (List.mem_append.2 (.inl hh)) rfl
      · have := h1 x hx; omega
    · exact n3 x hx x (List.mem_append.2 (.inr hy)) rfl
theorem bkV_nodup (A : Option Addr) : (bkV A).Nodup := by cases A <;> simp [bkV]
end Go.Proofs.Ytndgladfcogiiaa


/- Contracts of a connection's small methods. -/
namespace Go.Proofs.Ytndgladfcogiiaa
open Go.RowKit
set_option maxRecDepth 100000
set_option linter.unusedVariables false

/-- Nothing is added. -/
structure Les (D' D : CnD) : Prop where
  hr : D'.rb = none ∨ (D'.rb = D.rb ∧ D'.WA = D.WA ∧ D'.wn = D.wn ∧ D'.wc = D.wc ∧ D'.ws = D.ws ∧ D'.rc = D.rc)
  hl : (D'.LA = none ∧ D'.lc = 0 ∧ D'.rows = []) ∨ (D'.LA = D.LA ∧ D'.lc = D.lc ∧ D'.rows = D.rows)
  ho : D'.ob = none ∨ D'.ob = D.ob
  hu : (D'.UA = none ∧ D'.uc = 0 ∧ D'.us = []) ∨ (D'.UA = D.UA ∧ D'.uc = D.uc ∧ D'.us = D.us)
  hh : D'.HA = D.HA ∧ D'.hc = D.hc ∧ D'.toks = D.toks
theorem Les.sub {D' D : CnD} (h : Les D' D) (cb : Nat) : List.Sublist (D'.M cb) (D.M cb) := by
  unfold CnD.M
  refine List.Sublist.cons_cons _ (List.Sublist.append ?_ (List.Sublist.append ?_ (List.Sublist.append ?_ ?_)))
  · rcases h.hr with e | ⟨e1, e2, _⟩
    · rw [e]; exact List.nil_sublist _
    · rw [e1, e2]; exact List.Sublist.refl _
  · rcases h.hl with ⟨e, _⟩ | ⟨e, _⟩
    · rw [e]; exact List.nil_sublist _
    · rw [e]; exact List.Sublist.refl _
  · rcases h.hu with ⟨e, _⟩ | ⟨e, _⟩
    · rw [e]; exact List.nil_sublist _
    · rw [e]; exact List.Sublist.refl _
  · rw [h.hh.1]; exact List.Sublist.refl _
theorem Les.subR {D' D : CnD} (h : Les D' D) : ∀ y ∈ D'.R, y ∈ D.R := by
  intro y hy
  unfold CnD.R at hy ⊢
  simp only [List.mem_append] at hy ⊢
  rcases hy with hy | hy | hy
  · rcases h.ho with e | e
    · rw [e] at hy; simp at hy
    · rw [e] at hy; exact .inl hy
  · rcases h.hl with ⟨_, _, e⟩ | ⟨_, _, e⟩
    · rw [e] at hy; simp at hy
    · rw [e] at hy; exact .inr (.inl hy)
  · rw [h.hh.2.2] at hy; exact .inr (.inr hy)
theorem CnM.upd {w w' : World} {B cb : Nat} {D D' : CnD} (h : CnM w B cb D) (hf : Off [cb] w w') (hb : BlkL w' cb D'.cells) (hL : Les D' D) : CnM w' B cb D' ∧ Stp w w' cb D D' := by
  have hsub := hL.sub cb
  have hnd : (D.M cb).Nodup := h.nd
  have hcb : ∀ y ∈ rbsD D.rb D.WA ++ (bkV D.LA ++ (bkV D.UA ++ bkV D.HA)), y ∉ [cb] := fun y hy hs => by
    simp only [List.mem_cons, List.not_mem_nil, or_false] at hs
    subst hs
    exact (List.nodup_cons.1 hnd).1 hy
  simp only [List.mem_append] at hcb
  have hM : ∀ y ∈ D'.M cb, y ∈ D.M cb ∨ w.heap.size ≤ y := fun y hy => .inl (hsub.subset hy)
  have hS : ∀ y ∈ [cb], y ∈ D.M cb ∨ w.heap.size ≤ y := fun y hy => .inl (by simp at hy; subst hy; simp [CnD.M])
  refine ⟨⟨hb, h.cbB, fun rb e => ?_, ?_, fun q e => ?_, ?_, ?_, ?_, fun r hr => ?_, fun t ht => ?_, hsub.nodup hnd⟩, hf.mono (fun y hy => by simp at hy; subst hy; simp [CnD.M]), hM, fun y hy => .inl (hL.subR y hy)⟩
  · rcases hL.hr with e' | ⟨e1, e2, e3, e4, e5, e6⟩
    · rw [e'] at e; cases e
    · rw [e2, e3, e4, e5, e6]
      rw [e1] at e
      obtain ⟨h1, h2⟩ := h.rd rb e
      have hh : ∀ y ∈ rb :: bkV D.WA, y ∉ [cb] := fun y hy => hcb y (.inl (by rw [e]; exact hy))
      exact ⟨h1.off hf (hh rb (by simp)) (fun y hy => hh y (by simp [hy])), h2⟩
  · rcases hL.hl with ⟨e1, e2, e3⟩ | ⟨e1, e2, e3⟩
    · rw [e1, e2, e3]; exact OwnS.nil _ _ _
    · rw [e1, e2, e3]; exact h.line.off hf (fun y hy => hcb y (.inr (.inl hy)))
  · rcases hL.ho with e' | e'
    · rw [e'] at e; cases e
    · rw [e'] at e
      obtain ⟨h1, h2, h3, h4⟩ := h.out q e
      exact ⟨h1.off hf (fun hs => by simp at hs; exact h3 (by rw [hs]; simp [CnD.M])), h2, fun hh => h3 (hsub.subset hh), h4.step hf hS hM⟩
  · rcases hL.hu with ⟨e1, e2, e3⟩ | ⟨e1, e2, e3⟩
    · rw [e1, e2, e3]; exact OwnV.nil _ _
    · rw [e1, e2, e3]; exact h.uns.off hf (fun y hy => hcb y (.inr (.inr (.inl hy))))
  · rcases hL.hu with ⟨e1, e2, e3⟩ | ⟨e1, e2, e3⟩
    · rw [e3]; intro d hd; simp at hd
    · rw [e3]; exact h.ub
  · obtain ⟨e1, e2, e3⟩ := hL.hh
    rw [e1, e2, e3]; exact h.held.off hf (fun y hy => hcb y (.inr (.inr (.inr hy))))
  · rcases hL.hl with ⟨e1, e2, e3⟩ | ⟨e1, e2, e3⟩
    · rw [e3] at hr; simp at hr
    · rw [e3] at hr; exact (h.kl r hr).step hf hS hM
  · rw [hL.hh.2.2] at ht; exact (h.kh t ht).step hf hS hM
/-- How a method ends that answers r. -/
def CnE (w : World) (B cb : Nat) (D D' : CnD) (r : Value) (e : Ending) (w' : World) : Prop := e = .returned r ∧ CnM w' B cb D' ∧ Stp w w' cb D D'
section
variable (w : World) (B cb : Nat) (D : CnD) (h : CnM w B cb D)
include h
theorem cn_open : Calls Try.prog 58 #[.pointer (some ⟨cb, 0, none⟩)] w fun e w' => e = .returned (.bool (!D.cl)) ∧ w = w' := by
  have c4 := h.blk.cell 4 _ rfl
  have lt := h.blk.lt
  go_enter Try.func58, Try.ntmps58
  go_wp2
  go_ret
  exact ⟨rfl, rfl⟩
theorem cn_waiting : Calls Try.prog 57 #[.pointer (some ⟨cb, 0, none⟩)] w fun e w' => e = .returned (.int .i64 (D.rows.length : Nat)) ∧ w = w' := by
  have c1 := h.blk.cell 1 _ rfl
  have lt := h.blk.lt
  go_enter Try.func57, Try.ntmps57
  go_wp2
  go_ret
  exact ⟨rfl, rfl⟩
theorem cn_stop (f : Int) : Calls Try.prog 109 #[.pointer (some ⟨cb, 0, none⟩), .int .i64 f] w (CnE w B cb D { D with rb := none, fin := f } (.tuple #[])) := by
  have c0 := h.blk.cell 0 _ rfl
  have c2 := h.blk.cell 2 _ rfl
  have f0 := h.blk.froz 0 (by simp [CnD.cells])
  have f2 := h.blk.froz 2 (by simp [CnD.cells])
  have lt := h.blk.lt
  go_enter Try.func109, Try.ntmps109
  go_wp2
  have fo : Off [cb] w ((w.setCell ⟨cb, 0, none⟩ (.pointer none)).setCell ⟨cb, 2, none⟩ (.int .i64 f)) := ((Off.refl _ _).setCell (p := ⟨cb, 0, none⟩) (by simp) _).setCell (p := ⟨cb, 2, none⟩) (by simp) _
  have hb := (h.blk.set 0 (.pointer none) (by simp [CnD.cells])).set 2 (.int .i64 f) (by simp [CnD.cells])
  have hr := h.upd (D' := { D with rb := none, fin := f }) fo hb ⟨.inl rfl, .inr ⟨rfl, rfl, rfl⟩, .inr rfl, .inr ⟨rfl, rfl, rfl⟩, rfl, rfl, rfl⟩
  exact bodyPost_ret (v := .tuple #[]) (by simp [results, Try.results109, go_sem]) rfl ⟨rfl, hr.1, hr.2⟩
theorem cn_close : Calls Try.prog 112 #[.pointer (some ⟨cb, 0, none⟩)] w (CnE w B cb D { D with rb := none, LA := none, lc := 0, rows := [], fin := 0, cl := true } (.tuple #[])) := by
  have c0 := h.blk.cell 0 _ rfl
  have c1 := h.blk.cell 1 _ rfl
  have c2 := h.blk.cell 2 _ rfl
  have c4 := h.blk.cell 4 _ rfl
  have f0 := h.blk.froz 0 (by simp [CnD.cells])
  have f1 := h.blk.froz 1 (by simp [CnD.cells])
  have f2 := h.blk.froz 2 (by simp [CnD.cells])
  have f4 := h.blk.froz 4 (by simp [CnD.cells])
  have lt := h.blk.lt
  go_enter Try.func112, Try.ntmps112
  go_wp2
  have fo : Off [cb] w ((((w.setCell ⟨cb, 0, none⟩ (.pointer none)).setCell ⟨cb, 1, none⟩ (.slice none 0 0)).setCell ⟨cb, 2, none⟩ (.int .i64 0)).setCell ⟨cb, 4, none⟩ (.bool true)) := ((((Off.refl _ _).setCell (p := ⟨cb, 0, none⟩) (by simp) _).setCell (p := ⟨cb, 1, none⟩) (by simp) _).setCell (p := ⟨cb, 2, none⟩) (by simp) _).setCell (p := ⟨cb, 4, none⟩) (by simp) _
  have hb := (((h.blk.set 0 (.pointer none) (by simp [CnD.cells])).set 1 (.slice none 0 0) (by simp [CnD.cells])).set 2 (.int .i64 0) (by simp [CnD.cells])).set 4 (.bool true) (by simp [CnD.cells])
  have hr := h.upd (D' := { D with rb := none, LA := none, lc := 0, rows := [], fin := 0, cl := true }) fo hb ⟨.inl rfl, .inl ⟨rfl, rfl, rfl⟩, .inr rfl, .inr ⟨rfl, rfl, rfl⟩, rfl, rfl, rfl⟩
  exact bodyPost_ret (v := .tuple #[]) (by simp [results, Try.results112, go_sem]) rfl ⟨rfl, hr.1, hr.2⟩
theorem cn_take : Calls Try.prog 64 #[.pointer (some ⟨cb, 0, none⟩)] w (CnE w B cb D { D with UA := none, uc := 0, us := [] } (.slice D.UA D.us.length D.uc)) := by
  have c5 := h.blk.cell 5 _ rfl
  have f5 := h.blk.froz 5 (by simp [CnD.cells])
  have lt := h.blk.lt
  go_enter Try.func64, Try.ntmps64
  go_wp2
  have fo : Off [cb] w (w.setCell ⟨cb, 5, none⟩ (.slice none 0 0)) := (Off.refl _ _).setCell (p := ⟨cb, 5, none⟩) (by simp) _
  have hb := h.blk.set 5 (.slice none 0 0) (by simp [CnD.cells])
  have hr := h.upd (D' := { D with UA := none, uc := 0, us := [] }) fo hb ⟨.inr ⟨rfl, rfl, rfl, rfl, rfl, rfl⟩, .inr ⟨rfl, rfl, rfl⟩, .inr rfl, .inl ⟨rfl, rfl, rfl⟩, rfl, rfl, rfl⟩
  go_ret
  exact ⟨rfl, hr.1, hr.2⟩
end
end Go.Proofs.Ytndgladfcogiiaa


/- A connection, one of whose lists changes. -/
namespace Go.Proofs.Ytndgladfcogiiaa
open Go.RowKit
set_option maxRecDepth 100000
set_option linter.unusedVariables false

/-- Its blocks are apart. -/
structure Djs (cb : Nat) (W L U H : List Nat) : Prop where
  cW : cb ∉ W
  cL : cb ∉ L
  cU : cb ∉ U
  cH : cb ∉ H
  WL : ∀ y ∈ W, y ∉ L
  WU : ∀ y ∈ W, y ∉ U
  WH : ∀ y ∈ W, y ∉ H
  LU : ∀ y ∈ L, y ∉ U
  LH : ∀ y ∈ L, y ∉ H
  UH : ∀ y ∈ U, y ∉ H
  nW : W.Nodup
theorem djs_of {cb : Nat} {W L U H : List Nat} (h : (cb :: (W ++ (L ++ (U ++ H)))).Nodup) : Djs cb W L U H := by
  simp only [List.nodup_cons, List.nodup_append, List.mem_append, not_or] at h
  obtain ⟨⟨c1, c2, c3, c4⟩, nW, ⟨nL, ⟨nU, nH, uh⟩, lu⟩, wl⟩ := h
  exact ⟨c1, c2, c3, c4, fun y hy hh => wl y hy y (.inl hh) rfl, fun y hy hh => wl y hy y (.inr (.inl hh)) rfl, fun y hy hh => wl y hy y (.inr (.inr hh)) rfl, fun y hy hh => lu y hy y (.inl hh) rfl, fun y hy hh => lu y hy y (.inr hh) rfl, fun y hy hh => uh y hy y hh rfl, nW⟩
theorem CnM.dj {w : World} {B cb : Nat} {D : CnD} (h : CnM w B cb D) : Djs cb (rbsD D.rb D.WA) (bkV D.LA) (bkV D.UA) (bkV D.HA) := djs_of h.nd
theorem not_cons {cb : Nat} {a b : List Nat} (h1 : cb ∉ b) (h2 : ∀ y ∈ b, y ∉ a) : ∀ y ∈ b, y ∉ cb :: a := fun y hy hh => by
  rcases List.mem_cons.1 hh with rfl | hh
  · exact h1 hy
  · exact h2 y hy hh
section
variable {w w0 w' : World} {B cb : Nat} {D D0 : CnD}
theorem CnM.chgU (h : CnM w B cb D) (hst : Stp w0 w cb D0 D) (A' : Option Addr) (c' : Nat) (us' : List Nat) (hf : Off (cb :: bkV D.UA) w w') (hb : BlkL w' cb (CnD.cells { D with UA := A', uc := c', us := us' })) (ho : OwnV w' B A' us'.length c' (us'.map V8)) (hby : ∀ d ∈ us', d < 256)
    (hA : ∀ y ∈ bkV A', y ∈ bkV D.UA ∨ w.heap.size ≤ y) : CnM w' B cb { D with UA := A', uc := c', us := us' } ∧ Stp w0 w' cb D0 { D with UA := A', uc := c', us := us' } := by
  have dj := h.dj
  have hlt := h.lt
  have hS' : ∀ y ∈ cb :: bkV D.UA, y ∈ D.M cb := fun y hy => by
    rcases List.mem_cons.1 hy with rfl | hy
    · simp [CnD.M]
    · simp [CnD.M, hy]
  have hS : ∀ y ∈ cb :: bkV D.UA, y ∈ D.M cb ∨ w.heap.size ≤ y := fun y hy => .inl (hS' y hy)
  have e1 : D.M cb = (cb :: (rbsD D.rb D.WA ++ bkV D.LA)) ++ (bkV D.UA ++ bkV D.HA) := by simp [CnD.M]
  have e2 : CnD.M { D with UA := A', uc := c', us := us' } cb = (cb :: (rbsD D.rb D.WA ++ bkV D.LA)) ++ (bkV A' ++ bkV D.HA) := by simp [CnD.M]
  have hnd : (CnD.M { D with UA := A', uc := c', us := us' } cb).Nodup := by
    rw [e2]
    have := h.nd
    rw [e1] at this hlt
    exact nodup_upd this (bkV_nodup _) hA (fun y hy => (hlt y (List.mem_append.2 (.inl hy))).2) (fun y hy => (hlt y (List.mem_append.2 (.inr (List.mem_append.2 (.inr hy))))).2)
  have hM : ∀ y ∈ CnD.M { D with UA := A', uc := c', us := us' } cb, y ∈ D.M cb ∨ w.heap.size ≤ y := fun y hy => by
    rw [e2] at hy
    rw [e1]
    simp only [List.mem_append] at hy ⊢
    rcases hy with hy | hy | hy
    · exact .inl (.inl hy)
    · rcases hA y hy with hh | hh
      · exact .inl (.inr (.inl hh))
      · exact .inr hh
    · exact .inl (.inr (.inr hy))
  refine ⟨⟨hb, h.cbB, fun rb e => by
    obtain ⟨h1, h2⟩ := h.rd rb e
    have hh : ∀ y ∈ rb :: bkV D.WA, y ∉ cb :: bkV D.UA := fun y hy => (not_cons dj.cW dj.WU) y (by rw [show D.rb = some rb from e]; exact hy)
    exact ⟨h1.off hf (hh rb (by simp)) (fun y hy => hh y (by simp [hy])), h2⟩, h.line.off hf (not_cons dj.cL dj.LU), fun q e => by
    obtain ⟨h1, h2, h3, h4⟩ := h.out q e
    exact ⟨h1.off hf (fun hh => (h3 (hS' _ hh))), h2, fun hh => (hM _ hh).elim h3 (fun hg => by have := h1.lt; omega), h4.step hf hS hM⟩, ho, hby, h.held.off hf (not_cons dj.cH (fun y hy hh => dj.UH y hh hy)), fun r hr => (h.kl r hr).step hf hS hM, fun t ht => (h.kh t ht).step hf hS hM, hnd⟩, ?_⟩
  refine ⟨hst.off.new hf (fun y hy => (hS y hy).elim (fun hh => hst.m y hh) (fun hh => .inr (Nat.le_trans hst.off.size hh))), fun y hy => (hM y hy).elim (hst.m y) (fun hh => .inr (Nat.le_trans hst.off.size hh)), fun y hy => ?_⟩
  exact hst.r y hy
theorem CnM.chgL (h : CnM w B cb D) (hst : Stp w0 w cb D0 D) (A' : Option Addr) (c' : Nat) (rows' : List ClR) (hf : Off (cb :: bkV D.LA) w w') (hb : BlkL w' cb (CnD.cells { D with LA := A', lc := c', rows := rows' })) (ho : OwnS w' B 4 A' rows'.length c' (FCl rows')) (hk : ∀ r ∈ rows', KeyOk w (D.M cb) r.A r.c r.ks) (hR : ∀ r ∈ rows', ∀ y ∈ bkV r.A, y ∈ D0.R ∨ w0.heap.size ≤ y)
    (hA : ∀ y ∈ bkV A', y ∈ bkV D.LA ∨ w.heap.size ≤ y) : CnM w' B cb { D with LA := A', lc := c', rows := rows' } ∧ Stp w0 w' cb D0 { D with LA := A', lc := c', rows := rows' } := by
  have dj := h.dj
  have hlt := h.lt
  have hS' : ∀ y ∈ cb :: bkV D.LA, y ∈ D.M cb := fun y hy => by
    rcases List.mem_cons.1 hy with rfl | hy
    · simp [CnD.M]
    · simp [CnD.M, hy]
  have hS : ∀ y ∈ cb :: bkV D.LA, y ∈ D.M cb ∨ w.heap.size ≤ y := fun y hy => .inl (hS' y hy)
  have e1 : D.M cb = (cb :: rbsD D.rb D.WA) ++ (bkV D.LA ++ (bkV D.UA ++ bkV D.HA)) := by simp [CnD.M]
  have e2 : CnD.M { D with LA := A', lc := c', rows := rows' } cb = (cb :: rbsD D.rb D.WA) ++ (bkV A' ++ (bkV D.UA ++ bkV D.HA)) := by simp [CnD.M]
  have hnd : (CnD.M { D with LA := A', lc := c', rows := rows' } cb).Nodup := by
    rw [e2]
    have := h.nd
    rw [e1] at this hlt
    exact nodup_upd this (bkV_nodup _) hA (fun y hy => (hlt y (List.mem_append.2 (.inl hy))).2) (fun y hy => (hlt y (List.mem_append.2 (.inr (List.mem_append.2 (.inr hy))))).2)
  have hM : ∀ y ∈ CnD.M { D with LA := A', lc := c', rows := rows' } cb, y ∈ D.M cb ∨ w.heap.size ≤ y := fun y hy => by
    rw [e2] at hy
    rw [e1]
    simp only [List.mem_append] at hy ⊢
    rcases hy with hy | hy | hy
    · exact .inl (.inl hy)
    · rcases hA y hy with hh | hh
      · exact .inl (.inr (.inl hh))
      · exact .inr hh
    · exact .inl (.inr (.inr hy))
  refine ⟨⟨hb, h.cbB, fun rb e => by
    obtain ⟨h1, h2⟩ := h.rd rb e
    have hh : ∀ y ∈ rb :: bkV D.WA, y ∉ cb :: bkV D.LA := fun y hy => (not_cons dj.cW dj.WL) y (by rw [show D.rb = some rb from e]; exact hy)
    exact ⟨h1.off hf (hh rb (by simp)) (fun y hy => hh y (by simp [hy])), h2⟩, ho, fun q e => by
    obtain ⟨h1, h2, h3, h4⟩ := h.out q e
    exact ⟨h1.off hf (fun hh => (h3 (hS' _ hh))), h2, fun hh => (hM _ hh).elim h3 (fun hg => by have := h1.lt; omega), h4.step hf hS hM⟩, h.uns.off hf (not_cons dj.cU (fun y hy hh => dj.LU y hh hy)), h.ub, h.held.off hf (not_cons dj.cH (fun y hy hh => dj.LH y hh hy)), fun r hr => (hk r hr).step hf hS hM, fun t ht => (h.kh t ht).step hf hS hM, hnd⟩, ?_⟩
  refine ⟨hst.off.new hf (fun y hy => (hS y hy).elim (fun hh => hst.m y hh) (fun hh => .inr (Nat.le_trans hst.off.size hh))), fun y hy => (hM y hy).elim (hst.m y) (fun hh => .inr (Nat.le_trans hst.off.size hh)), fun y hy => ?_⟩
  simp only [CnD.R, List.mem_append, List.mem_flatMap] at hy
  rcases hy with hy | ⟨r, hr, hy⟩ | hy
  · exact hst.r y (by simp only [CnD.R, List.mem_append]; exact .inl hy)
  · exact hR r hr y hy
  · exact hst.r y (by simp only [CnD.R, List.mem_append, List.mem_flatMap]; exact .inr (.inr hy))
theorem CnM.chgH (h : CnM w B cb D) (hst : Stp w0 w cb D0 D) (A' : Option Addr) (c' : Nat) (toks' : List TkR) (hf : Off (cb :: bkV D.HA) w w') (hb : BlkL w' cb (CnD.cells { D with HA := A', hc := c', toks := toks' })) (ho : OwnS w' B 3 A' toks'.length c' (FTk toks')) (hk : ∀ t ∈ toks', KeyOk w (D.M cb) t.A t.c t.ks) (hR : ∀ t ∈ toks', ∀ y ∈ bkV t.A, y ∈ D0.R ∨ w0.heap.size ≤ y)
    (hA : ∀ y ∈ bkV A', y ∈ bkV D.HA ∨ w.heap.size ≤ y) : CnM w' B cb { D with HA := A', hc := c', toks := toks' } ∧ Stp w0 w' cb D0 { D with HA := A', hc := c', toks := toks' } := by
  have dj := h.dj
  have hlt := h.lt
  have hS' : ∀ y ∈ cb :: bkV D.HA, y ∈ D.M cb := fun y hy => by
    rcases List.mem_cons.1 hy with rfl | hy
    · simp [CnD.M]
    · simp [CnD.M, hy]
  have hS : ∀ y ∈ cb :: bkV D.HA, y ∈ D.M cb ∨ w.heap.size ≤ y := fun y hy => .inl (hS' y hy)
  have e1 : D.M cb = (cb :: (rbsD D.rb D.WA ++ (bkV D.LA ++ bkV D.UA))) ++ (bkV D.HA ++ []) := by simp [CnD.M]
  have e2 : CnD.M { D with HA := A', hc := c', toks := toks' } cb = (cb :: (rbsD D.rb D.WA ++ (bkV D.LA ++ bkV D.UA))) ++ (bkV A' ++ []) := by simp [CnD.M]
  have hnd : (CnD.M { D with HA := A', hc := c', toks := toks' } cb).Nodup := by
    rw [e2]
    have := h.nd
    rw [e1] at this hlt
    exact nodup_upd this (bkV_nodup _) hA (fun y hy => (hlt y (List.mem_append.2 (.inl hy))).2) (fun y hy => (hlt y (List.mem_append.2 (.inr (List.mem_append.2 (.inr hy))))).2)
  have hM : ∀ y ∈ CnD.M { D with HA := A', hc := c', toks := toks' } cb, y ∈ D.M cb ∨ w.heap.size ≤ y := fun y hy => by
    rw [e2] at hy
    rw [e1]
    simp only [List.mem_append] at hy ⊢
    rcases hy with hy | hy | hy
    · exact .inl (.inl hy)
    · rcases hA y hy with hh | hh
      · exact .inl (.inr (.inl hh))
      · exact .inr hh
    · exact .inl (.inr (.inr hy))
  refine ⟨⟨hb, h.cbB, fun rb e => by
    obtain ⟨h1, h2⟩ := h.rd rb e
    have hh : ∀ y ∈ rb :: bkV D.WA, y ∉ cb :: bkV D.HA := fun y hy => (not_cons dj.cW dj.WH) y (by rw [show D.rb = some rb from e]; exact hy)
    exact ⟨h1.off hf (hh rb (by simp)) (fun y hy => hh y (by simp [hy])), h2⟩, h.line.off hf (not_cons dj.cL dj.LH), fun q e => by
    obtain ⟨h1, h2, h3, h4⟩ := h.out q e
    exact ⟨h1.off hf (fun hh => (h3 (hS' _ hh))), h2, fun hh => (hM _ hh).elim h3 (fun hg => by have := h1.lt; omega), h4.step hf hS hM⟩, h.uns.off hf (not_cons dj.cU dj.UH), h.ub, ho, fun r hr => (h.kl r hr).step hf hS hM, fun t ht => (hk t ht).step hf hS hM, hnd⟩, ?_⟩
  refine ⟨hst.off.new hf (fun y hy => (hS y hy).elim (fun hh => hst.m y hh) (fun hh => .inr (Nat.le_trans hst.off.size hh))), fun y hy => (hM y hy).elim (hst.m y) (fun hh => .inr (Nat.le_trans hst.off.size hh)), fun y hy => ?_⟩
  simp only [CnD.R, List.mem_append, List.mem_flatMap] at hy
  rcases hy with hy | hy | ⟨r, hr, hy⟩
  · exact hst.r y (by simp only [CnD.R, List.mem_append]; exact .inl hy)
  · exact hst.r y (by simp only [CnD.R, List.mem_append, List.mem_flatMap]; exact .inr (.inl hy))
  · exact hR r hr y hy
theorem CnM.chgW (h : CnM w B cb D) (hst : Stp w0 w cb D0 D) (rb : Nat) (hrb : D.rb = some rb) (A' : Option Addr) (n' c' : Nat) (ws' : List Nat) (rc' : Bool) (hf : Off (rb :: bkV D.WA) w w') (ho : RdM w' B rb A' n' c' ws' rc')
    (hA : ∀ y ∈ bkV A', y ∈ bkV D.WA ∨ w.heap.size ≤ y) : CnM w' B cb { D with WA := A', wn := n', wc := c', ws := ws', rc := rc' } ∧ Stp w0 w' cb D0 { D with WA := A', wn := n', wc := c', ws := ws', rc := rc' } := by
  have dj := h.dj
  have hlt := h.lt
  have eW : rbsD D.rb D.WA = rb :: bkV D.WA := by rw [hrb]; rfl
  rw [eW] at dj
  have hWn : ∀ y ∈ rb :: bkV D.WA, y ∈ D.M cb := fun y hy => by unfold CnD.M; rw [eW]; exact List.mem_cons_of_mem _ (List.mem_append.2 (.inl hy))
  have hS : ∀ y ∈ rb :: bkV D.WA, y ∈ D.M cb ∨ w.heap.size ≤ y := fun y hy => .inl (hWn y hy)
  have e1 : D.M cb = [cb, rb] ++ (bkV D.WA ++ (bkV D.LA ++ (bkV D.UA ++ bkV D.HA))) := by simp [CnD.M, eW]
  have e2 : CnD.M { D with WA := A', wn := n', wc := c', ws := ws', rc := rc' } cb = [cb, rb] ++ (bkV A' ++ (bkV D.LA ++ (bkV D.UA ++ bkV D.HA))) := by simp [CnD.M, hrb, rbsD]
  have hnd : (CnD.M { D with WA := A', wn := n', wc := c', ws := ws', rc := rc' } cb).Nodup := by
    rw [e2]
    have := h.nd
    rw [e1] at this hlt
    exact nodup_upd this (bkV_nodup _) hA (fun y hy => (hlt y (List.mem_append.2 (.inl hy))).2) (fun y hy => (hlt y (List.mem_append.2 (.inr (List.mem_append.2 (.inr hy))))).2)
  have hM : ∀ y ∈ CnD.M { D with WA := A', wn := n', wc := c', ws := ws', rc := rc' } cb, y ∈ D.M cb ∨ w.heap.size ≤ y := fun y hy => by
    rw [e2] at hy
    rw [e1]
    simp only [List.mem_append] at hy ⊢
    rcases hy with hy | hy | hy
    · exact .inl (.inl hy)
    · rcases hA y hy with hh | hh
      · exact .inl (.inr (.inl hh))
      · exact .inr hh
    · exact .inl (.inr (.inr hy))
  refine ⟨⟨h.blk.off hf dj.cW, h.cbB, fun r e => by
    rw [hrb] at e
    cases e
    exact ⟨ho, (h.rd rb hrb).2⟩, h.line.off hf ((fun y hy hh => dj.WL y hh hy)), fun q e => by
    obtain ⟨h1, h2, h3, h4⟩ := h.out q e
    exact ⟨h1.off hf (fun hh => (h3 (hWn _ hh))), h2, fun hh => (hM _ hh).elim h3 (fun hg => by have := h1.lt; omega), h4.step hf hS hM⟩, h.uns.off hf ((fun y hy hh => dj.WU y hh hy)), h.ub, h.held.off hf ((fun y hy hh => dj.WH y hh hy)), fun r hr => (h.kl r hr).step hf hS hM, fun t ht => (h.kh t ht).step hf hS hM, hnd⟩, ?_⟩
  refine ⟨hst.off.new hf (fun y hy => (hS y hy).elim (fun hh => hst.m y hh) (fun hh => .inr (Nat.le_trans hst.off.size hh))), fun y hy => (hM y hy).elim (hst.m y) (fun hh => .inr (Nat.le_trans hst.off.size hh)), fun y hy => ?_⟩
  exact hst.r y hy
end
end Go.Proofs.Ytndgladfcogiiaa


/- Contracts: what is written; a new connection; the law's request. -/
namespace Go.Proofs.Ytndgladfcogiiaa
open Go.RowKit
set_option maxRecDepth 100000
set_option linter.unusedVariables false

theorem encV_length (zs : List Nat) : (Fr.encV zs).length = zs.length + 4 := by simp [Fr.encV, Tk.wordV_len]; omega
theorem encV_byte {zs : List Nat} (h : ∀ d ∈ zs, d < 256) : ∀ d ∈ Fr.encV zs, d < 256 := by
  intro d hd
  unfold Fr.encV at hd
  rcases List.mem_append.1 hd with hd | hd
  · exact Tk.wordV_lt _ _ d hd
  · exact h d hd
set_option maxHeartbeats 800000 in
theorem cn_write (w : World) (B cb : Nat) (D : CnD) (h : CnM w B cb D) (hB : B ≤ w.heap.size) (T : Option Addr) (n tc : Nat) (zs : List Nat) (ha : Arg w w.heap.size T n tc zs) (h1 : 1 ≤ n) (hn : n ≤ 4096) (hu : D.us.length + (n + 4) ≤ 140737488355328) :
    Calls Try.prog 111 #[.pointer (some ⟨cb, 0, none⟩), .slice T n tc] w fun e w' => ∃ A' c', CnE w B cb D { D with UA := A', uc := c', us := D.us ++ Fr.encV zs } (.tuple #[]) e w' := by
  obtain ⟨i0, hi, hz0, hz1, hz2⟩ := info_parts u8_info
  have HE := Lib.hid (fenc_good w w.heap.size T n tc zs ha (Nat.le_refl _) h1 hn)
  have hlz := ha.len
  have hby := ha.byte
  go_enter Try.func111, Try.ntmps111
  go_wp2_with fail
  with_reducible refine (HE.out).mono ?_
  rintro e w1 ⟨F, fc, rfl, ho, hb⟩
  have H1 := Lib.hid (h.below hb)
  have HST := Lib.hid (Stp.of_below (cb := cb) (D := D) hb)
  obtain ⟨g, rfl⟩ := ho.notnone (by omega)
  have hsz := hb.size
  have c5 := H1.out.blk.cell 5 _ rfl
  have lt := H1.out.blk.lt
  have HSR := Lib.hid ho.arg.src
  have hun := H1.out.uns
  have HUN := Lib.hid hun
  have hnn : (D.us.length + (n + 4)) * 1 ≤ 140737488355328 := by omega
  have hBB : B ≤ w1.heap.size := by omega
  clear ho hb HE hun
  go_wp2_with (refine wpList_append_a Try.underlying22 hi hz0 hz1 hz2 rfl rfl (.tmp 15) (.tmp 16) rfl rfl HUN.out (some ⟨g, 0, none⟩) (n + 4) fc _ rfl HSR.out (fun e => by cases e) (by omega) hnn hBB ?_)
  intro A' c' w2 hoz hoff hbk
  have dj := H1.out.dj
  have hk2 := H1.out.blk.off hoff dj.cU
  have d5 := hk2.cell 5 _ rfl
  have e5 := hk2.froz 5 (by simp [CnD.cells])
  have l2 := hk2.lt
  have hcA : cb ∉ bkV A' := fun hh => by
    rcases hbk cb hh with h | ⟨h, _⟩
    · exact dj.cU h
    · omega
  have fo : Off [cb] w2 (w2.setCell ⟨cb, 5, none⟩ (.slice A' (D.us.length + (n + 4)) c')) := (Off.refl _ _).setCell (p := ⟨cb, 5, none⟩) (by simp) _
  have fo2 : Off (cb :: bkV D.UA) w1 (w2.setCell ⟨cb, 5, none⟩ (.slice A' (D.us.length + (n + 4)) c')) := (hoff.mono (fun y hy => List.mem_cons_of_mem _ hy)).trans (fo.mono (fun y hy => by simp at hy; subst hy; simp))
  have hlen : (D.us ++ Fr.encV zs).length = D.us.length + (n + 4) := by rw [List.length_append, encV_length, hlz]
  have hblk := hk2.set 5 (.slice A' (D.us.length + (n + 4)) c') (by simp [CnD.cells])
  have hown : OwnV (w2.setCell ⟨cb, 5, none⟩ (.slice A' (D.us.length + (n + 4)) c')) B A' (D.us ++ Fr.encV zs).length c' ((D.us ++ Fr.encV zs).map V8) := by
    rw [hlen, List.map_append]
    exact hoz.off fo (fun y hy hh => by simp at hh; subst hh; exact hcA hy)
  have hbl2 : BlkL (w2.setCell ⟨cb, 5, none⟩ (.slice A' (D.us.length + (n + 4)) c')) cb (CnD.cells { D with UA := A', uc := c', us := D.us ++ Fr.encV zs }) := by
    have e : CnD.cells { D with UA := A', uc := c', us := D.us ++ Fr.encV zs } = D.cells.set 5 (.slice A' (D.us.length + (n + 4)) c') := by simp [CnD.cells, hlen]
    rw [e]; exact hblk
  have hr := H1.out.chgU HST.out A' c' (D.us ++ Fr.encV zs) fo2 hbl2 hown (fun d hd => by
    rcases List.mem_append.1 hd with hd | hd
    · exact H1.out.ub d hd
    · exact encV_byte hby d hd) (fun y hy => (hbk y hy).imp id (fun e => by omega))
  have HR := Lib.hid hr
  clear hr hown hbl2 hblk hk2 fo fo2 hoz hoff hbk dj c5 lt HUN HSR
  go_wp2
  refine ⟨rfl, .tuple #[], ?_, A', c', rfl, HR.out.1, HR.out.2⟩
  simp [results, Try.results111, go_sem]
/-- A connection to which nothing has come. -/
def CnD.new (rb : Nat) : CnD := ⟨some rb, none, 0, 0, [], none, 0, [], 0, none, false, none, 0, [], none, 0, [], false⟩
theorem cn_new (w : World) : Calls Try.prog 60 #[] w fun e w' => e = .returned (.pointer (some ⟨w.heap.size + 1, 0, none⟩)) ∧ CnM w' w.heap.size (w.heap.size + 1) (CnD.new w.heap.size) ∧ Below w.heap.size w w' := by
  go_enter Try.func60, Try.ntmps60
  go_wp2_with (with_reducible refine (fnew_any _).mono ?_)
  rintro e w1 ⟨rfl, rfl⟩
  go_wp2
  go_ret
  have kr : RdM ((w.alloc (.cells #[.slice none 0 0, .bool false] 133)).alloc (.cells #[.pointer (some ⟨w.heap.size, 0, none⟩), .slice none 0 0, .int .i64 0, .pointer none, .bool false, .slice none 0 0, .slice none 0 0] 156)) w.heap.size w.heap.size none 0 0 [] false :=
    ⟨(BlkL.new w [.slice none 0 0, .bool false] _).alloc _, OwnV.nil _ _, by simp, by simp [bkV]⟩
  have kc := BlkL.new (w.alloc (.cells #[.slice none 0 0, .bool false] 133)) [.pointer (some ⟨w.heap.size, 0, none⟩), .slice none 0 0, .int .i64 0, .pointer none, .bool false, .slice none 0 0, .slice none 0 0] 156
  simp only [World.size_alloc] at kc
  refine ⟨rfl, ⟨kc, by omega, fun rb e => ?_, OwnS.nil _ _ _, (fun q e => by cases e), OwnV.nil _ _, by simp [CnD.new], OwnS.nil _ _ _, by simp [CnD.new], by simp [CnD.new], by simp [CnD.M, CnD.new, rbsD, bkV]⟩, ((Below.refl _ _).alloc (Nat.le_refl _) _).alloc (by simp) _⟩
  cases e
  exact ⟨kr, Nat.le_refl _⟩
set_option maxHeartbeats 800000 in
/-- The law's request: a frame, nothing where the call is wrong. -/
def rqF (x : ClV) : List Nat := if rqC x.o x.p x.s x.ks.length = 0 then Fr.encV (rqB x.o x.p x.s x.ks) else []
theorem req_any (w : World) (B : Nat) (x : ClV) (A : Option Addr) (n c : Nat) (h : Arg w B A n c x.ks) (hB : B ≤ w.heap.size) : Calls Try.prog 59 #[ClA x.o x.p A n c x.s] w fun e w' =>
    ∃ XA xc, e = .returned (.slice XA (rqF x).length xc) ∧ OwnV w' w.heap.size XA (rqF x).length xc ((rqF x).map V8) ∧ (∀ d ∈ rqF x, d < 256) ∧ (rqC x.o x.p x.s x.ks.length = 0 ↔ XA ≠ none) ∧ Below w.heap.size w w' := by
  have B0 := clBl w x.o x.p A n c x.s
  have K := clK w x.o x.p A n c x.s
  have c0 := K.cell 0 _ rfl
  have c1 := K.cell 1 _ rfl
  have c2 := K.cell 2 _ rfl
  have c3 := K.cell 3 _ rfl
  have lk := K.lt
  obtain ⟨f, hf⟩ : ∃ f, rqC x.o x.p x.s x.ks.length = f := ⟨_, rfl⟩
  have HR := Lib.hid (request_m (clW w x.o x.p A n c x.s) B x A n c (h.below (B0.mono hB)) (by simp; omega) f hf)
  have HB0 := Lib.hid B0
  clear B0 K h
  go_enter Try.func59, Try.ntmps59
  go_wp2_with fail
  with_reducible refine (HR.out).mono ?_
  rintro e w1 ⟨XA, xc, rfl, ha, hb⟩
  have HB1 := Lib.hid (HB0.out.trans (hb.mono (by simp)))
  by_cases h0 : f = 0
  · subst h0
    have e1 : rqM x = rqB x.o x.p x.s x.ks := by unfold rqM; rw [if_pos hf]
    have e2 : rqF x = Fr.encV (rqB x.o x.p x.s x.ks) := by unfold rqF; rw [if_pos hf]
    have hmin := (rq_min hf).1
    have hmax := rqB_max hf
    rw [e1] at ha
    rw [e1]
    obtain ⟨L, hL⟩ : ∃ L, rqB x.o x.p x.s x.ks = L := ⟨_, rfl⟩
    rw [hL] at ha hmin hmax e2
    rw [hL]
    have HE := Lib.hid (fenc_good w1 _ XA L.length xc L ha (Nat.le_refl _) hmin hmax)
    have HBY := Lib.hid ha.byte
    clear ha hb HR c0 c1 c2 c3 lk
    go_wp2_with fail
    with_reducible refine (HE.out).mono ?_
    rintro e w2 ⟨F, fc, rfl, ho, hb⟩
    have HO := Lib.hid ho
    have HB2 := Lib.hid (HB1.out.trans (hb.mono HB1.out.size))
    have HZ := Lib.hid HB1.out.size
    clear ho hb HE
    go_wp2
    go_ret
    rw [e2, encV_length]
    obtain ⟨g, hg⟩ := HO.out.notnone (by omega)
    exact ⟨F, fc, rfl, (HO.out.ownV).mono HZ.out, encV_byte HBY.out, ⟨(fun _ hh => by rw [hg] at hh; cases hh), fun _ => hf⟩, HB2.out⟩
  · have e2 : rqF x = [] := by unfold rqF; rw [if_neg (by rw [hf]; exact h0)]
    have f1 : (f != 0) = true := by simpa using h0
    clear ha hb HR c0 c1 c2 c3 lk
    go_wp2
    go_ret
    rw [e2]
    exact ⟨none, 0, rfl, OwnV.nil _ _, by simp, ⟨fun hh => absurd (hf ▸ hh) h0, fun hh => absurd rfl hh⟩, HB1.out⟩
end Go.Proofs.Ytndgladfcogiiaa


/- Lists of tokens: copies; the document's Same. -/
namespace Go.Proofs.Ytndgladfcogiiaa
open Go.RowKit
set_option maxRecDepth 100000
set_option linter.unusedVariables false

theorem tok_info : (Try.prog.info? 24).map (fun i => (i.zero, i.size, i.bytes)) = some (some (.agg #[.int .i64 0, .slice none 0 0, .int .i64 0]), 3, 40) := by kernel_rfl
theorem info_partsT : ∃ i0, Try.prog.info? 24 = some i0 ∧ i0.zero = some (.agg #[.int .i64 0, .slice none 0 0, .int .i64 0]) ∧ i0.size = 3 ∧ i0.bytes = 40 := by
  have h := tok_info
  cases hh : Try.prog.info? 24 with
  | none => rw [hh] at h; cases h
  | some i0 =>
    rw [hh] at h
    simp only [Option.map_some, Option.some.injEq, Prod.mk.injEq] at h
    exact ⟨i0, rfl, h.1, h.2.1, h.2.2⟩
abbrev noTk : TkR := ⟨0, 0, none, 0, []⟩
theorem FTk_at (l : List TkR) (i j : Nat) (h : i < l.length) (hj : j < 3) : (FTk l)[i * 3 + j]? = (l.getD i noTk).cells[j]? := by
  induction l generalizing i with
  | nil => simp at h
  | cons a l ih =>
    cases i with
    | zero =>
      rw [Nat.zero_mul, Nat.zero_add, FTk_cons]
      rw [List.getElem?_append_left (by rw [TkR.len]; omega)]
      rfl
    | succ i =>
      have := ih i (by simpa using h)
      rw [FTk_cons, List.getElem?_append_right (by rw [TkR.len]; omega)]
      have e : (i + 1) * 3 + j - a.cells.length = i * 3 + j := by rw [TkR.len]; omega
      rw [e, this]; rfl
theorem tkD_mem {L : List TkR} {i : Nat} (h : i < L.length) : L.getD i noTk ∈ L := by
  rw [List.getD_eq_getElem?_getD, List.getElem?_eq_getElem h]; exact List.getElem_mem h
theorem tkv_get {L L' : List TkR} (h : L.map TkR.v = L'.map TkR.v) {i : Nat} (hi : i < L.length) (hi' : i < L'.length) : (L.getD i noTk).v = (L'.getD i noTk).v := by
  have := congrArg (fun l => l[i]?) h
  simpa [List.getElem?_map, List.getD_eq_getElem?_getD, hi, hi'] using this
/-- Tokens that are read. -/
structure TksA (w : World) (A : Option Addr) (n c : Nat) (L : List TkR) : Prop where
  own : ∃ B, OwnS w B 3 A n c (FTk L)
  mem : ∀ t ∈ L, Arg w w.heap.size t.A t.ks.length t.c t.ks
section
variable {w w' : World} {n c : Nat} {A : Option Addr} {L : List TkR}
theorem TksA.len (h : TksA w A n c L) : L.length = n := by obtain ⟨B, h⟩ := h.own; have := h.len; rw [FTk_len] at this; omega
theorem TksA.below (h : TksA w A n c L) (hb : Below w.heap.size w w') : TksA w' A n c L := ⟨h.own.imp fun B h => h.below hb, fun t ht => ((h.mem t ht).below hb).more hb.size⟩
theorem TksA.drewN (h : TksA w A n c L) (t : Nat) : TksA (w.drewN t) A n c L := h.below (below_drewN (Below.refl _ _) t)
end
set_option maxHeartbeats 3200000 in
theorem same22_any (w : World) (A A' : Option Addr) (n c n' c' : Nat) (L L' : List TkR) (h : TksA w A n c L) (h' : TksA w A' n' c' L') (he : L.map TkR.v = L'.map TkR.v) :
    Calls Try.prog 66 #[.slice A n c, .slice A' n' c'] w (SameEnd w true) := by
  have hll : L.length = L'.length := by simpa using congrArg List.length he
  have hl := h.len
  have hl' := h'.len
  obtain rfl : n' = n := by omega
  have hcap : n' ≤ 9223372036854775807 := by obtain ⟨B, ho⟩ := h.own; have := ho.le; have := ho.cap; unfold maxLen at this; omega
  have H1 := Lib.hid (And.intro h h')
  have HE := Lib.hid (And.intro he (And.intro hl hl'))
  clear h h' he hll hl hl'
  go_enter Try.func66, Try.ntmps66
  go_wp2
  go_loopw [13] (fun iv wr => ∃ i t : Nat, i ≤ n' ∧ iv = .int .i64 (i : Int) ∧ wr = w.drewN t) (fun iv _ => n' - (intOf iv).toNat)
  case atStart => exact ⟨0, 0, Nat.zero_le _, rfl, rfl⟩
  case round =>
    obtain ⟨i, t, hi, rfl, hwt⟩ := hrel
    have h1 : TksA wr A n' c L := by rw [hwt]; exact H1.out.1.drewN t
    have h2 : TksA wr A' n' c' L' := by rw [hwt]; exact H1.out.2.drewN t
    have HWT := Lib.hid hwt
    clear hwt
    rcases Nat.lt_or_ge i n' with hlt | hge
    · obtain ⟨B1, o1⟩ := h1.own
      obtain ⟨B2, o2⟩ := h2.own
      obtain ⟨b, off, rfl, _, _, hc, _⟩ := o1.cell (by omega)
      obtain ⟨b', off', rfl, _, _, hc', _⟩ := o2.cell (by omega)
      have hf := fun j (hj : j < 3) v (hv : (L.getD i noTk).cells[j]? = some v) => hc (i * 3 + j) v (by rw [FTk_at L i j (by have := HE.out.2.1; omega) hj]; exact hv)
      have hf' := fun j (hj : j < 3) v (hv : (L'.getD i noTk).cells[j]? = some v) => hc' (i * 3 + j) v (by rw [FTk_at L' i j (by have := HE.out.2.2; omega) hj]; exact hv)
      have hm := h1.mem _ (tkD_mem (i := i) (by have := HE.out.2.1; omega))
      have hm' := h2.mem _ (tkD_mem (i := i) (by have := HE.out.2.2; omega))
      have hee := tkv_get HE.out.1 (i := i) (by have := HE.out.2.1; omega) (by have := HE.out.2.2; omega)
      generalize L.getD i noTk = x at hm hee hf
      generalize L'.getD i noTk = y at hm' hee hf'
      obtain ⟨p, s, KA, kc, ks⟩ := x
      obtain ⟨p', s', KA', kc', ks'⟩ := y
      simp only [TkV.mk.injEq] at hee
      obtain ⟨rfl, rfl, rfl⟩ := hee
      have e0 : wr.cell? ⟨b, off + i * 3, none⟩ = some (.int .i64 p) := hf 0 (by omega) _ rfl
      have g0 : wr.cell? ⟨b', off' + i * 3, none⟩ = some (.int .i64 p) := hf' 0 (by omega) _ rfl
      have e1 : wr.cell? ⟨b, off + i * 3 + 1, none⟩ = some (.slice KA ks.length kc) := hf 1 (by omega) _ rfl
      have g1 : wr.cell? ⟨b', off' + i * 3 + 1, none⟩ = some (.slice KA' ks.length kc') := hf' 1 (by omega) _ rfl
      have e2 : wr.cell? ⟨b, off + i * 3 + 2, none⟩ = some (.int .i64 s) := hf 2 (by omega) _ rfl
      have g2 : wr.cell? ⟨b', off' + i * 3 + 2, none⟩ = some (.int .i64 s) := hf' 2 (by omega) _ rfl
      obtain ⟨kn, hkn⟩ : ∃ kn, ks.length = kn := ⟨_, rfl⟩
      dsimp only at hm hm'
      rw [hkn] at hm hm' e1 g1
      have HSB := Lib.hid (fun q => show Calls Try.prog 23 #[.slice KA kn kc, .slice KA' kn kc'] (wr.drewN q) (fun e w' => e = .returned (.bool true) ∧ ∃ m, w' = (wr.drewN q).drewN m) from
        same_any (wr.drewN q) _ _ KA KA' kn kc kn kc' ks ks true (by simp) (hm.drewN q) (hm'.drewN q))
      have i0 : (0 : Int) ≤ (i : Int) := by omega
      have i1 : (i : Int) < (n' : Int) := by omega
      have d0 : (p != p) = false := by simp
      have d2 : (s != s) = false := by simp
      clear hc hc' hf hf' hm hm' h1 h2 o1 o2 hkn
      go_wp2_with fail
      go_quiet (first | (go_at_call 23; with_reducible exact Calls.quiet_of (HSB.out _)))
      go_wp2
      go_roundw
      case rel => exact ⟨i + 1, _, by omega, by push_cast; rfl, by rw [HWT.out]; exact World.drewN_drewN _ _ _⟩
      case measure => simp [intOf]; omega
    · obtain rfl : i = n' := by omega
      go_wp2
      go_ret
      exact ⟨rfl, t, HWT.out⟩
end Go.Proofs.Ytndgladfcogiiaa


/- Contracts: the ledger as it is told. -/
namespace Go.Proofs.Ytndgladfcogiiaa
open Go.RowKit
set_option maxRecDepth 100000
set_option linter.unusedVariables false

theorem OwnS.lit0 (w : World) (k : Nat) (T : TypeId) : OwnS (w.alloc (.cells #[] T)) w.heap.size k (some ⟨w.heap.size, 0, none⟩) 0 0 [] := by
  refine ⟨by simp, Nat.le_refl _, by unfold maxLen; omega, (fun e => by cases e), fun a ha => ?_⟩
  injection ha with ha
  subst ha
  exact ⟨rfl, Nat.le_refl _, by simp, fun j hj => by omega, fun j v hj => by simp at hj⟩
theorem cloneT_any (w : World) (B : Nat) (A : Option Addr) (n c : Nat) (L : List TkR) (h : OwnS w B 3 A n c (FTk L)) (hn : n ≤ 1000000) :
    Calls Try.prog 129 #[.slice A n c] w fun e w' => ∃ A' c', e = .returned (.slice A' n c') ∧ OwnS w' w.heap.size 3 A' n c' (FTk L) ∧ Below w.heap.size w w' := by
  obtain ⟨i0, hi, hz0, hz1, hz2⟩ := info_partsT
  cases A with
  | none =>
    obtain ⟨rfl, rfl⟩ := h.none_ rfl
    have e : FTk L = [] := List.eq_nil_of_length_eq_zero (by rw [h.len])
    rw [e]
    have hnil := fun w : World => Lib.run_eql_slice_nil (P := Try.prog) w 154 24 none 0 0 0 0 Try.underlying154
    go_enter Try.func129, Try.ntmps129
    go_wp2
    go_ret
    exact ⟨none, 0, rfl, OwnS.nil _ _ _, Below.refl _ _⟩
  | some ad =>
    have bl := (Below.refl w.heap.size w).alloc (Nat.le_refl _) (.cells #[] 24)
    have HL := Lib.hid (OwnS.lit0 w 3 24)
    have HS := Lib.hid ((h.below bl).src (FTk_oneC L))
    have HB := Lib.hid bl
    have hnn : (0 + n) * 40 ≤ 140737488355328 := by omega
    have hbb : w.heap.size ≤ (w.alloc (.cells #[] 24)).heap.size := by simp
    clear bl
    have hnil := fun w : World => Lib.run_eql_slice_nil (P := Try.prog) w 154 24 (some ad) n c 0 0 Try.underlying154
    go_enter Try.func129, Try.ntmps129
    go_wp2_with (refine wpList_append_s Try.underlying154 hi hz0 hz1 hz2 rfl rfl (.tmp 5) (.tmp 6) rfl rfl HL.out (some ad) n c _ rfl HS.out (fun e => by cases e) (by omega) hnn hbb ?_)
    intro A' c' w' hoz hoff hbk
    have HO := Lib.hid hoz
    have HB2 := Lib.hid (HB.out.trans (hoff.below hbb (fun y hy => by simp [bkV] at hy; omega)))
    clear hoz hoff hbk
    go_wp2
    go_ret
    exact ⟨A', c', rfl, HO.out, HB2.out⟩
/-- The loop that copies the keys. -/
def TellI (w : World) (A : Option Addr) (n c : Nat) (vs : List TkV) (iv : Value) (wr : World) : Prop :=
  ∃ (k : Nat) (L : List TkR), k ≤ n ∧ iv = .int .i64 (k : Int) ∧ OwnS wr w.heap.size 3 A n c (FTk L) ∧ L.map TkR.v = vs ∧ L.length = n ∧ (∀ t ∈ L, KeyOk wr (bkV A) t.A t.c t.ks) ∧ Below w.heap.size w wr
/-- How the tokens are told. -/
def TellE (w : World) (vs : List TkV) (e : Ending) (w' : World) : Prop :=
  ∃ A c L, e = .returned (.slice A L.length c) ∧ OwnS w' w.heap.size 3 A L.length c (FTk L) ∧ L.map TkR.v = vs ∧ (∀ t ∈ L, KeyOk w' (bkV A) t.A t.c t.ks) ∧ Below w.heap.size w w'
theorem FTk_set (l : List TkR) (i : Nat) (h : i < l.length) (A : Option Addr) (c : Nat) : (FTk l).set (i * 3 + 1) (.slice A (l.getD i noTk).ks.length c) = FTk (l.set i { l.getD i noTk with A := A, c := c }) := by
  induction l generalizing i with
  | nil => simp at h
  | cons a l ih =>
    cases i with
    | zero =>
      rw [List.set_cons_zero, FTk_cons, FTk_cons]
      simp [TkR.cells]
    | succ i =>
      have := ih i (by simpa using h)
      rw [List.set_cons_succ, FTk_cons, FTk_cons, List.getD_cons_succ, ← this]
      rw [List.set_append_right _ _ (by rw [TkR.len]; omega)]
      congr 2
      rw [TkR.len]; omega
set_option maxHeartbeats 3200000 in
theorem tell_any (w : World) (B : Nat) (A : Option Addr) (n c : Nat) (L : List TkR) (h : OwnS w B 3 A n c (FTk L)) (hk : ∀ t ∈ L, KeyOk w [] t.A t.c t.ks) (hn : n ≤ 1000000) (hl255 : ∀ t ∈ L, t.ks.length ≤ 140737488355328) :
    Calls Try.prog 108 #[.slice A n c] w (TellE w (L.map TkR.v)) := by
  have hL : L.length = n := by have := h.len; rw [FTk_len] at this; omega
  have HC := Lib.hid (cloneT_any w B A n c L h hn)
  have HK := Lib.hid hk
  have HLL := Lib.hid hL
  obtain ⟨vs, hvs⟩ : ∃ vs, L.map TkR.v = vs := ⟨_, rfl⟩
  have HVS := Lib.hid hvs
  have HLV : Hid (∀ x ∈ vs, x.ks.length ≤ 140737488355328) := Lib.hid (by rw [← hvs]; intro x hx; obtain ⟨t, ht, rfl⟩ := List.mem_map.1 hx; exact hl255 t ht)
  rw [hvs]
  clear h hk hL hvs hl255
  go_enter Try.func108, Try.ntmps108
  go_wp2_with fail
  with_reducible refine (HC.out).mono ?_
  rintro e w1 ⟨A1, c1, rfl, ho, hb⟩
  have HST : Hid (TellI w A1 n c1 vs (.int .i64 0) w1) := Lib.hid ⟨0, L, Nat.zero_le _, rfl, ho, HVS.out, HLL.out, fun t ht => by
    have := (HK.out t ht).step (M' := bkV A1) (Off.of_below (S := []) hb) (by simp) (fun y hy => .inr (ho.lt y hy).1)
    exact this, hb⟩
  clear ho hb HC HK
  go_wp2
  go_loopw [9] (fun iv wr => TellI w A1 n c1 vs iv wr) (fun iv _ => n - (intOf iv).toNat)
  case atStart => exact HST.out
  case round =>
    obtain ⟨k, L2, hk, rfl, ho, hv, hl2, hkk, hbw⟩ := hrel
    have HV2 := Lib.hid hv
    have HKK := Lib.hid hkk
    have HBW := Lib.hid hbw
    have HL2 := Lib.hid hl2
    have hsw := hbw.size
    clear hv hkk hbw hl2
    rcases Nat.lt_or_ge k n with h1 | h1
    · have hlt : k < L2.length := by have := HL2.out; omega
      obtain ⟨g, off, rfl, hg1, hg2, hc, hfz⟩ := ho.cell (by omega)
      have HO := Lib.hid ho
      obtain ⟨x, hx⟩ : ∃ x, L2.getD k noTk = x := ⟨_, rfl⟩
      have hkx := HKK.out _ (tkD_mem hlt)
      have hvl : x.ks.length ≤ 140737488355328 := by
        have : x.v ∈ vs := by rw [← HV2.out, ← hx]; exact List.mem_map_of_mem (tkD_mem hlt)
        exact HLV.out _ this
      have e1 : wr.cell? ⟨g, off + k * 3 + 1, none⟩ = some (.slice x.A x.ks.length x.c) := hc (k * 3 + 1) _ (by rw [FTk_at L2 k 1 hlt (by omega), hx]; rfl)
      have f1 : wr.frozen? ⟨g, off + k * 3 + 1, none⟩ = false := hfz (k * 3 + 1) (by omega)
      rw [hx] at hkx
      have HKX := Lib.hid hkx
      have HX := Lib.hid hx
      have HCL := Lib.hid (clone_all wr x.A x.ks.length x.c x.ks hkx.arg (Nat.le_trans hvl (by omega)))
      have i0 : (0 : Int) ≤ (k : Int) := by omega
      have i1 : (k : Int) < (n : Int) := by omega
      obtain ⟨m, hm⟩ : ∃ m, x.ks.length = m := ⟨_, rfl⟩
      have HM := Lib.hid hm
      rw [hm] at e1 HCL
      have hcp := ho.cap
      have hle := ho.le
      unfold maxLen at hcp
      clear ho hc hfz hkx hx hm
      go_wp2_with fail
      with_reducible refine (HCL.out).mono ?_
      rintro e w2 ⟨K2, kc2, rfl, hok, hb2⟩
      have hz2 := hb2.size
      have e2 : w2.cell? ⟨g, off + k * 3 + 1, none⟩ = some (.slice x.A m x.c) := (hb2.cell (p := ⟨g, off + k * 3 + 1, none⟩) (by show g < _; omega)).trans e1
      have f2 : w2.frozen? ⟨g, off + k * 3 + 1, none⟩ = false := (hb2.frozen (p := ⟨g, off + k * 3 + 1, none⟩) (by show g < _; omega)).trans f1
      have l2 : g < w2.heap.size := by omega
      have fo : Off [g] w2 (w2.setCell ⟨g, off + k * 3 + 1, none⟩ (.slice K2 m kc2)) := (Off.refl _ _).setCell (p := ⟨g, off + k * 3 + 1, none⟩) (by simp) _
      have ho3 := (HO.out.below hb2).set (k * 3 + 1) (.slice K2 m kc2) (by omega)
      have HREL : Hid (TellI w (some ⟨g, off, none⟩) n c1 vs (.int .i64 ((k + 1 : Nat) : Int)) (w2.setCell ⟨g, off + k * 3 + 1, none⟩ (.slice K2 m kc2))) := Lib.hid (by
        refine ⟨k + 1, L2.set k { x with A := K2, c := kc2 }, by omega, rfl, ?_, ?_, by rw [List.length_set]; exact HL2.out, ?_, ?_⟩
        · have := FTk_set L2 k hlt K2 kc2
          rw [HX.out, HM.out] at this
          rw [← this]
          exact ho3
        · rw [List.map_set, HV2.out]
          have : (({ x with A := K2, c := kc2 } : TkR)).v = vs[k]'(by rw [← HV2.out]; simpa using hlt) := by
            have h9 : x.v = vs[k]'(by rw [← HV2.out]; simpa using hlt) := by
              have := HV2.out
              subst this
              rw [← HX.out]
              simp [List.getD_eq_getElem?_getD, hlt]
            exact h9
          rw [this]
          exact List.set_getElem_self _
        · intro t ht
          have hM : ∀ y ∈ bkV (some ⟨g, off, none⟩ : Option Addr), y ∈ bkV (some ⟨g, off, none⟩ : Option Addr) ∨ wr.heap.size ≤ y := fun y hy => .inl hy
          rcases List.mem_or_eq_of_mem_set ht with h' | h'
          · exact ((HKK.out t h').step (Off.of_below (S := []) hb2) (by simp) hM).step fo (fun y hy => by simp at hy; subst hy; exact .inl (by simp [bkV])) (fun y hy => .inl hy)
          · subst h'
            dsimp only
            have hby : ∀ d ∈ x.ks, d < 256 := HKX.out.arg.byte
            have hok2 : OwnV w2 wr.heap.size K2 x.ks.length kc2 (x.ks.map V8) := by rw [HM.out]; exact hok
            refine ⟨((hok2.arg' hby).off (Nat.le_refl _) fo (fun y hy hh => by simp at hh; subst hh; have := (hok2.lt _ hy).1; omega)).more (by simp), fun y hy => by have := (hok2.lt y hy).2; simpa using this, fun y hy hh => by simp [bkV] at hh; subst hh; have := (hok2.lt _ hy).1; omega⟩
        · exact (HBW.out.trans (hb2.mono hsw)).setCell (p := ⟨g, off + k * 3 + 1, none⟩) (by show w.heap.size ≤ g; omega) _)
      clear fo ho3 hok hb2 e1 f1 HCL
      go_wp2
      go_roundw
      case rel => have := HREL.out; simpa using this
      case measure => simp [intOf]; omega
    · obtain rfl : k = n := by omega
      have HO := Lib.hid ho
      clear ho
      go_wp2
      go_ret
      exact ⟨A1, c1, L2, by rw [HL2.out]; rfl, by rw [HL2.out]; exact HO.out, HV2.out, HKK.out, HBW.out⟩
section
variable (w : World) (B cb : Nat) (D : CnD) (h : CnM w B cb D) (hn : D.toks.length ≤ 1000000) (hl : ∀ t ∈ D.toks, t.ks.length ≤ 140737488355328)
include h hn hl
theorem cn_tell : Calls Try.prog 108 #[.slice D.HA D.toks.length D.hc] w (TellE w (D.toks.map TkR.v)) :=
  tell_any w B D.HA _ D.hc D.toks h.held (fun t ht => ⟨(h.kh t ht).arg, (h.kh t ht).lt, fun y hy hh => by simp at hh⟩) hn hl
theorem cn_ledger : Calls Try.prog 56 #[.pointer (some ⟨cb, 0, none⟩)] w (TellE w (D.toks.map TkR.v)) := by
  have HT := Lib.hid (cn_tell w B cb D h hn hl)
  have c6 := h.blk.cell 6 _ rfl
  have lt := h.blk.lt
  go_enter Try.func56, Try.ntmps56
  go_wp2_with fail
  with_reducible refine (HT.out).mono ?_
  rintro e w1 ⟨A, c, L, rfl, ho⟩
  have HO := Lib.hid ho
  clear ho
  go_wp2
  go_ret
  exact ⟨A, c, L, rfl, HO.out⟩
theorem cn_hangup : Calls Try.prog 65 #[.pointer (some ⟨cb, 0, none⟩)] w fun e w' =>
    ∃ A c L, e = .returned (.slice A L.length c) ∧ (∃ Bt, w.heap.size ≤ Bt ∧ OwnS w' Bt 3 A L.length c (FTk L)) ∧ L.map TkR.v = D.toks.map TkR.v ∧ (∀ t ∈ L, KeyOk w' (bkV A) t.A t.c t.ks) ∧ CnM w' B cb { D with rb := none, LA := none, lc := 0, rows := [], fin := 0, cl := true } ∧ Stp w w' cb D { D with rb := none, LA := none, lc := 0, rows := [], fin := 0, cl := true } := by
  have HC := Lib.hid (cn_close w B cb D h)
  have HN := Lib.hid (And.intro hn hl)
  clear h hn hl
  go_enter Try.func65, Try.ntmps65
  go_wp2_with fail
  with_reducible refine (HC.out).mono ?_
  rintro e w1 ⟨rfl, h1, h2⟩
  have H1 := Lib.hid h1
  have H2 := Lib.hid h2
  have HT := Lib.hid (cn_tell w1 B cb _ h1 HN.out.1 HN.out.2)
  have c6 := h1.blk.cell 6 _ rfl
  have lt := h1.blk.lt
  clear h1 h2 HC
  go_wp2_with fail
  with_reducible refine (HT.out).mono ?_
  rintro e w2 ⟨A, c, L, rfl, ho, hv, hk, hb⟩
  have HO := Lib.hid ho
  have HV := Lib.hid hv
  have HK := Lib.hid hk
  have HB := Lib.hid hb
  clear ho hv hk hb
  go_wp2
  go_ret
  exact ⟨A, c, L, rfl, ⟨_, H2.out.off.size, HO.out⟩, HV.out, HK.out, H1.out.below HB.out, H2.out.trans (Stp.of_below HB.out)⟩
end
end Go.Proofs.Ytndgladfcogiiaa


/- Contracts: the ledger behind a reply; a reply. -/
namespace Go.Proofs.Ytndgladfcogiiaa
open Go.RowKit
set_option maxRecDepth 100000
set_option linter.unusedVariables false

/-- The ledger behind a reply. -/
def afterV (l : List TkV) (x : ClV) (E s : Int) : List TkV :=
  if E ≠ 0 then l else if x.o = 2 then l ++ [⟨x.p, s, x.ks⟩] else if x.o = 3 then l.filter (fun t => !(decide (t.s = x.s) && (decide (t.p = x.p) && decide (t.ks = x.ks)))) else l
/-- How after ends. -/
def AftE (w : World) (B : Nat) (A : Option Addr) (L : List TkR) (x : ClR) (E s : Int) (e : Ending) (w' : World) : Prop :=
  ∃ A' c' L', e = .returned (.slice A' L'.length c') ∧ OwnS w' B 3 A' L'.length c' (FTk L') ∧ Off (bkV A) w w' ∧ (∀ y ∈ bkV A', y ∈ bkV A ∨ w.heap.size ≤ y) ∧ L'.map TkR.v = afterV (L.map TkR.v) x.v E s ∧ ∀ t ∈ L', t ∈ L ∨ (t.A = x.A ∧ t.c = x.c ∧ t.ks = x.ks)
abbrev aftW (w : World) (x : ClR) (r : RpV) : World := (clW w x.o x.p x.A x.ks.length x.c x.s).alloc (.cells #[.int .i64 r.E, .bool r.G, .int .i64 r.a, .int .i64 r.b, .int .i64 r.c, .int .i64 r.d] 82)
set_option maxHeartbeats 800000 in
theorem after_no3 (w : World) (B : Nat) (A : Option Addr) (n c : Nat) (L : List TkR) (h : OwnS w B 3 A n c (FTk L)) (hB : B ≤ w.heap.size) (hn : n ≤ 1000000) (x : ClR) (r : RpV) (h3 : r.E ≠ 0 ∨ x.o ≠ 3) :
    Calls Try.prog 113 #[.slice A n c, ClA x.o x.p x.A x.ks.length x.c x.s, r.val] w (AftE w B A L x r.E r.c) := by
  obtain ⟨i0, hi, hz0, hz1, hz2⟩ := info_partsT
  have hL : L.length = n := by have := h.len; rw [FTk_len] at this; omega
  have b2 : Below w.heap.size w (aftW w x r) := ((clBl w x.o x.p x.A x.ks.length x.c x.s).alloc (by simp) _)
  have k1 := (clK w x.o x.p x.A x.ks.length x.c x.s).alloc (.cells #[.int .i64 r.E, .bool r.G, .int .i64 r.a, .int .i64 r.b, .int .i64 r.c, .int .i64 r.d] 82)
  have k2 := BlkL.new (clW w x.o x.p x.A x.ks.length x.c x.s) r.cells 82
  rw [show (clW w x.o x.p x.A x.ks.length x.c x.s).heap.size = w.heap.size + 1 by simp] at k2
  have c0 := k1.cell 0 _ rfl
  have c1 := k1.cell 1 _ rfl
  have c2 := k1.cell 2 _ rfl
  have lk := k1.lt
  have r0 := k2.cell 0 _ rfl
  have r4 := k2.cell 4 _ rfl
  have lr := k2.lt
  have HB2 := Lib.hid b2
  have HL := Lib.hid hL
  have HO := Lib.hid (h.below b2)
  by_cases hE : r.E = 0
  · have e1 : (r.E != 0) = false := by simp [hE]
    have HE := Lib.hid hE
    by_cases h2 : x.o = 2
    · have bl := (Below.refl (aftW w x r).heap.size (aftW w x r)).alloc (Nat.le_refl _) (.cells #[.int .i64 x.p, .slice x.A x.ks.length x.c, .int .i64 r.c] 24)
      have HOL := Lib.hid (HO.out.below bl)
      have HS : Hid (SrcS ((aftW w x r).alloc (.cells #[.int .i64 x.p, .slice x.A x.ks.length x.c, .int .i64 r.c] 24)) 3 (some ⟨w.heap.size + 2, 0, none⟩) 1 (FTk [⟨x.p, r.c, x.A, x.c, x.ks⟩])) := Lib.hid (by
        rw [FTk_one]
        have hb := BlkL.new (aftW w x r) (TkR.cells ⟨x.p, r.c, x.A, x.c, x.ks⟩) 24
        rw [show (aftW w x r).heap.size = w.heap.size + 2 by simp] at hb
        exact BlkL.srcS hb (TkR.one _) 1 rfl)
      have HBL := Lib.hid (b2.trans (bl.mono b2.size))
      have e2 : (((x.o : Nat) : Int) == 2) = true := by rw [h2]; rfl
      have hnn : (n + 1) * 40 ≤ 140737488355328 := by omega
      have hbb : B ≤ ((aftW w x r).alloc (.cells #[.int .i64 x.p, .slice x.A x.ks.length x.c, .int .i64 r.c] 24)).heap.size := by simp; omega
      have H2 := Lib.hid h2
      clear h k1 k2 b2 bl hE h2 h3 HO HB2 hL
      go_enter Try.func113, Try.ntmps113
      go_wp2_with (refine wpList_append_s Try.underlying154 hi hz0 hz1 hz2 rfl rfl (.tmp 15) (.tmp 23) rfl rfl HOL.out (some ⟨w.heap.size + 2, 0, none⟩) 1 1 _ rfl HS.out (fun e => by cases e) (by omega) hnn hbb ?_)
      intro A' c' w' hoz hoff hbk
      have HOZ := Lib.hid hoz
      have HF := Lib.hid (show Off (bkV A) w w' from (Off.of_below HBL.out).trans hoff)
      have HBK := Lib.hid hbk
      clear hoz hoff hbk
      go_wp2
      go_ret
      have hlen : (L ++ [(⟨x.p, r.c, x.A, x.c, x.ks⟩ : TkR)]).length = n + 1 := by simp [HL.out]
      refine ⟨A', c', L ++ [⟨x.p, r.c, x.A, x.c, x.ks⟩], by rw [hlen]; rfl, by rw [hlen, FTk_append]; exact HOZ.out, HF.out, fun y hy => (HBK.out y hy).imp id (fun e => by first | omega | (simp at e; omega)), ?_, fun t ht => ?_⟩
      · unfold afterV; rw [if_neg (by simp [HE.out]), if_pos H2.out]; simp
      · rcases List.mem_append.1 ht with h | h
        · exact .inl h
        · simp at h; subst h; exact .inr ⟨rfl, rfl, rfl⟩
    · have e2 : (((x.o : Nat) : Int) == 2) = false := beq_eq_false_iff_ne.2 (by omega)
      have h3' : x.o ≠ 3 := h3.elim (fun h => absurd hE h) id
      have e3 : (((x.o : Nat) : Int) == 3) = false := beq_eq_false_iff_ne.2 (by omega)
      have H2 := Lib.hid h2
      have H3 := Lib.hid h3'
      clear h k1 k2 b2 hE h2 h3 h3' hL
      go_enter Try.func113, Try.ntmps113
      go_wp2
      go_ret
      refine ⟨A, c, L, by rw [HL.out]; rfl, by rw [HL.out]; exact HO.out, Off.of_below HB2.out, fun y hy => .inl hy, ?_, fun t ht => .inl ht⟩
      unfold afterV; rw [if_neg (by simp [HE.out]), if_neg H2.out, if_neg H3.out]
  · have e1 : (r.E != 0) = true := by simpa using hE
    have HE := Lib.hid hE
    clear h k1 k2 b2 hE h3 hL
    go_enter Try.func113, Try.ntmps113
    go_wp2
    go_ret
    refine ⟨A, c, L, by rw [HL.out]; rfl, by rw [HL.out]; exact HO.out, Off.of_below HB2.out, fun y hy => .inl hy, ?_, fun t ht => .inl ht⟩
    unfold afterV; rw [if_pos HE.out]
end Go.Proofs.Ytndgladfcogiiaa


/- Contract: Reply, with its bytes told as new memory. -/

namespace Go.Proofs.Ytndgladfcogiiaa
open Go.RowKit
set_option maxRecDepth 100000
set_option linter.unusedVariables false
/-- How Reply ends: its bytes are new memory. -/
def RpF (w : World) (r : RpV) (e : Ending) (w' : World) : Prop :=
  ∃ XA xn xc, e = .returned (.tuple #[.slice XA xn xc, .int .i64 (if r.ok then 0 else 1)]) ∧ OwnV w' w.heap.size XA xn xc ((if r.ok then r.bytes else []).map V8) ∧ Below w.heap.size w w'
theorem rpF_bad {w w' : World} {r : RpV} (h : r.ok = false) (hb : Below w.heap.size w w') : RpF w r (.returned (.tuple #[.slice none 0 0, .int .i64 1])) w' :=
  ⟨none, 0, 0, by rw [h]; rfl, by rw [h]; exact OwnV.nil _ _, hb⟩
set_option maxHeartbeats 3200000 in
theorem reply_anyF (w : World) (r : RpV) : Calls Try.prog 50 #[r.val] w (RpF w r) := by
  have B0 : Below w.heap.size w (w.alloc (.cells #[.int .i64 r.E, .bool r.G, .int .i64 r.a, .int .i64 r.b, .int .i64 r.c, .int .i64 r.d] 82)) := (Below.refl _ _).alloc (Nat.le_refl _) _
  have K0 : BlkL (w.alloc (.cells #[.int .i64 r.E, .bool r.G, .int .i64 r.a, .int .i64 r.b, .int .i64 r.c, .int .i64 r.d] 82)) w.heap.size r.cells := BlkL.new w _ _
  have HB0 := Lib.hid B0
  have HK0 := Lib.hid K0
  have hlt : w.heap.size < (w.alloc (.cells #[.int .i64 r.E, .bool r.G, .int .i64 r.a, .int .i64 r.b, .int .i64 r.c, .int .i64 r.d] 82)).heap.size := K0.lt
  have c0 := K0.cell 0 _ rfl
  have c1 := K0.cell 1 _ rfl
  have c2 := K0.cell 2 _ rfl
  have c3 := K0.cell 3 _ rfl
  have c4 := K0.cell 4 _ rfl
  have c5 := K0.cell 5 _ rfl
  clear B0 K0
  obtain ⟨r0, hr0⟩ : ∃ r0, r = r0 := ⟨_, rfl⟩
  have HR0 := Lib.hid hr0
  rcases (by omega : r.E < 0 ∨ 16 < r.E ∨ (0 ≤ r.E ∧ r.E ≤ 16)) with h | h | h
  · have hok : r.ok = false := by unfold RpV.ok RpV.eB; rw [decide_eq_false (by omega : ¬ 0 ≤ r.E)]; simp
    have HK := Lib.hid hok
    have d0 : decide (r.E < 0) = true := decide_eq_true h
    clear hok hr0
    obtain ⟨E, G, a, b, c, d⟩ := r
    dsimp only at *
    go_enter Try.func50, Try.ntmps50
    go_wp2
    go_ret2
    exact rpF_bad HK.out HB0.out
  · have hok : r.ok = false := by unfold RpV.ok RpV.eB; rw [decide_eq_false (by omega : ¬ r.E ≤ 16)]; simp
    have HK := Lib.hid hok
    have d0 : decide (r.E < 0) = false := decide_eq_false (by omega)
    have d1 : decide (16 < r.E) = true := decide_eq_true h
    clear hok hr0
    obtain ⟨E, G, a, b, c, d⟩ := r
    dsimp only at *
    go_enter Try.func50, Try.ntmps50
    go_wp2
    go_ret2
    exact rpF_bad HK.out HB0.out
  · obtain ⟨n, hn⟩ : ∃ n : Nat, r.E = (n : Int) := ⟨r.E.toNat, (Int.toNat_of_nonneg h.1).symm⟩
    have heB : r.eB = true := by unfold RpV.eB; simp [h.1, h.2]
    have HEB := Lib.hid heB
    clear hr0 heB
    obtain ⟨E, G, a, b, c, d⟩ := r
    dsimp only at *
    subst hn
    have d0 : decide ((n : Int) < 0) = false := decide_eq_false (by omega)
    have d1 : decide ((16 : Int) < (n : Int)) = false := decide_eq_false (by omega)
    have ew : IntKind.u8.wrap (n : Int) = (n : Int) := IntWalk.u8_in _ (by omega)
    have HO : Hid (OwnB ((w.alloc (.cells #[.int .i64 (n : Int), .bool G, .int .i64 a, .int .i64 b, .int .i64 c, .int .i64 d] 82)).alloc (.cells #[.int .u8 (n : Int), .int .u8 0] 5)) (w.heap.size + 1) (some ⟨w.heap.size + 1, 0, none⟩) 2 2 [n, 0]) := by
      have := OwnB.lit (w.alloc (.cells #[.int .i64 (n : Int), .bool G, .int .i64 a, .int .i64 b, .int .i64 c, .int .i64 d] 82)) [n, 0] (by simp; omega) rfl (by simp [maxLen])
      rw [World.size_alloc] at this
      exact Lib.hid this
    have HB1 := Lib.hid (HB0.out.alloc (by simp) (.cells #[.int .u8 (n : Int), .int .u8 0] 5))
    have HO2 : Hid (OwnB ((w.alloc (.cells #[.int .i64 (n : Int), .bool G, .int .i64 a, .int .i64 b, .int .i64 c, .int .i64 d] 82)).alloc (.cells #[.int .u8 (n : Int), .int .u8 1] 5)) (w.heap.size + 1) (some ⟨w.heap.size + 1, 0, none⟩) 2 2 [n, 1]) := by
      have := OwnB.lit (w.alloc (.cells #[.int .i64 (n : Int), .bool G, .int .i64 a, .int .i64 b, .int .i64 c, .int .i64 d] 82)) [n, 1] (by simp; omega) rfl (by simp [maxLen])
      rw [World.size_alloc] at this
      exact Lib.hid this
    have HB2 := Lib.hid (HB0.out.alloc (by simp) (.cells #[.int .u8 (n : Int), .int .u8 1] 5))
    have HK1 := Lib.hid (HK0.out.alloc (.cells #[.int .u8 (n : Int), .int .u8 0] 5))
    clear HR0
    cases G with
    | false =>
      have HI : Hid (RpI w ⟨(n : Int), false, a, b, c, d⟩ 0 (.slice (some ⟨w.heap.size + 1, 0, none⟩) 2 2) ((w.alloc (.cells #[.int .i64 (n : Int), .bool false, .int .i64 a, .int .i64 b, .int .i64 c, .int .i64 d] 82)).alloc (.cells #[.int .u8 (n : Int), .int .u8 0] 5))) := Lib.hid (rpI_zero rfl 0 rfl (HO.out.mono (by omega)) HB1.out)
      clear HO HO2 HB1 HB2 HK1 HK0 HB0
      go_enter Try.func50, Try.ntmps50
      go_wp2_with fail
      go_loopw [4, 32] (fun pv iv wr => ∃ j : Nat, j ≤ 4 ∧ iv = .int .i64 (j : Int) ∧ RpI w ⟨(n : Int), false, a, b, c, d⟩ j pv wr ∧ ∀ i x, i < j → [a, b, c, d][i]? = some x → tkB x = true) (fun _ iv _ => 4 - (intOf iv).toNat)
      case atStart => exact ⟨0, by omega, rfl, HI.out, fun i x h => by omega⟩
      case round =>
        obtain ⟨j, hj, rfl, ⟨XA, cc, rfl, ho, hb⟩, htk⟩ := hrel
        have HOj := Lib.hid ho
        have HBj := Lib.hid hb
        have HTj := Lib.hid htk
        clear ho hb htk HI c0 c1 c2 c3 c4 c5
        rcases (by omega : j = 0 ∨ j = 1 ∨ j = 2 ∨ j = 3 ∨ j = 4) with rfl | rfl | rfl | rfl | rfl
        · cases hx : tkB a with
          | true =>
            have hxx := tkB_true hx
            have HT : Hid (∀ i x, i < 0 + 1 → [a, b, c, d][i]? = some x → tkB x = true) := by
              refine Lib.hid fun i x hi hx2 => ?_
              rcases (by omega : i < 0 ∨ i = 0) with h5 | h5
              · exact HTj.out i x h5 hx2
              · subst h5; simp at hx2; subst hx2; exact hx
            have Ha := Lib.hid hx
            have HCT : Hid (Calls Try.prog 100 #[.int .i64 a] wr fun e w' => e = .returned (.bool true) ∧ wr = w') := by have := wtick_any wr a; rw [hx] at this; exact Lib.hid this
            have eu := u64_nat hxx.1 hxx.2
            obtain ⟨xn, hxn⟩ : ∃ xn : Nat, a.toNat = xn := ⟨_, rfl⟩
            have hxl : xn ≤ 4611686018427387903 := by omega
            rw [hxn] at eu
            have HXN := Lib.hid hxn
            have HAP : Hid (Calls Try.prog 71 #[.slice XA (2 + 8 * 0) cc, .int .u64 (xn : Int), .int .i64 8] wr fun e w' => ∃ A' c', e = .returned (.slice A' (2 + 8 * 0 + 8) c') ∧ OwnB w' w.heap.size A' (2 + 8 * 0 + 8) c' (RpV.upto ⟨(n : Int), false, a, b, c, d⟩ 0 ++ Tk.wordV xn 8) ∧ Below w.heap.size wr w') := Lib.hid (append8 wr w.heap.size XA (2 + 8 * 0) cc xn _ HOj.out HBj.out.size (by omega) (by omega))
            have hix : ∀ wz, (Instr.index 145 (.agg #[.int .i64 a, .int .i64 b, .int .i64 c, .int .i64 d]) (.int .i64 0)).run Try.prog wz = .ok (.int .i64 a) wz := fun wz => run_idx4 wz _ _ _ _ 0 _ rfl (by omega)
            clear hx hxx hxn
            go_wp2_with fail
            with_reducible refine (HCT.out).mono ?_
            rintro e w' ⟨rfl, rfl⟩
            go_wp2_with fail
            refine (HAP.out).mono ?_
            rintro e w2 ⟨A', c', rfl, ho2, hb2⟩
            have HST : Hid (RpI w ⟨(n : Int), false, a, b, c, d⟩ (0 + 1) (.slice A' (2 + 8 * 0 + 8) c') w2) := Lib.hid (rpI_step (n := a) rfl (by rw [HXN.out]; exact ho2) (HBj.out.trans hb2))
            clear ho2 hb2
            go_wp2
            go_roundw
            case rel => exact ⟨0 + 1, by omega, rfl, HST.out, HT.out⟩
            case measure => simp [intOf]
          | false =>
            have hok : RpV.ok ⟨(n : Int), false, a, b, c, d⟩ = false := by unfold RpV.ok; simp [hx]
            have HCT : Hid (Calls Try.prog 100 #[.int .i64 a] wr fun e w' => e = .returned (.bool false) ∧ wr = w') := by have := wtick_any wr a; rw [hx] at this; exact Lib.hid this
            have HOK := Lib.hid hok
            have hix : ∀ wz, (Instr.index 145 (.agg #[.int .i64 a, .int .i64 b, .int .i64 c, .int .i64 d]) (.int .i64 0)).run Try.prog wz = .ok (.int .i64 a) wz := fun wz => run_idx4 wz _ _ _ _ 0 _ rfl (by omega)
            clear hx hok
            go_wp2_with fail
            with_reducible refine (HCT.out).mono ?_
            rintro e w' ⟨rfl, rfl⟩
            go_wp2
            go_ret2
            exact rpF_bad HOK.out HBj.out
        · cases hx : tkB b with
          | true =>
            have hxx := tkB_true hx
            have HT : Hid (∀ i x, i < 1 + 1 → [a, b, c, d][i]? = some x → tkB x = true) := by
              refine Lib.hid fun i x hi hx2 => ?_
              rcases (by omega : i < 1 ∨ i = 1) with h5 | h5
              · exact HTj.out i x h5 hx2
              · subst h5; simp at hx2; subst hx2; exact hx
            have Hb := Lib.hid hx
            have HCT : Hid (Calls Try.prog 100 #[.int .i64 b] wr fun e w' => e = .returned (.bool true) ∧ wr = w') := by have := wtick_any wr b; rw [hx] at this; exact Lib.hid this
            have eu := u64_nat hxx.1 hxx.2
            obtain ⟨xn, hxn⟩ : ∃ xn : Nat, b.toNat = xn := ⟨_, rfl⟩
            have hxl : xn ≤ 4611686018427387903 := by omega
            rw [hxn] at eu
            have HXN := Lib.hid hxn
            have HAP : Hid (Calls Try.prog 71 #[.slice XA (2 + 8 * 1) cc, .int .u64 (xn : Int), .int .i64 8] wr fun e w' => ∃ A' c', e = .returned (.slice A' (2 + 8 * 1 + 8) c') ∧ OwnB w' w.heap.size A' (2 + 8 * 1 + 8) c' (RpV.upto ⟨(n : Int), false, a, b, c, d⟩ 1 ++ Tk.wordV xn 8) ∧ Below w.heap.size wr w') := Lib.hid (append8 wr w.heap.size XA (2 + 8 * 1) cc xn _ HOj.out HBj.out.size (by omega) (by omega))
            have hix : ∀ wz, (Instr.index 145 (.agg #[.int .i64 a, .int .i64 b, .int .i64 c, .int .i64 d]) (.int .i64 1)).run Try.prog wz = .ok (.int .i64 b) wz := fun wz => run_idx4 wz _ _ _ _ 1 _ rfl (by omega)
            clear hx hxx hxn
            go_wp2_with fail
            with_reducible refine (HCT.out).mono ?_
            rintro e w' ⟨rfl, rfl⟩
            go_wp2_with fail
            refine (HAP.out).mono ?_
            rintro e w2 ⟨A', c', rfl, ho2, hb2⟩
            have HST : Hid (RpI w ⟨(n : Int), false, a, b, c, d⟩ (1 + 1) (.slice A' (2 + 8 * 1 + 8) c') w2) := Lib.hid (rpI_step (n := b) rfl (by rw [HXN.out]; exact ho2) (HBj.out.trans hb2))
            clear ho2 hb2
            go_wp2
            go_roundw
            case rel => exact ⟨1 + 1, by omega, rfl, HST.out, HT.out⟩
            case measure => simp [intOf]
          | false =>
            have hok : RpV.ok ⟨(n : Int), false, a, b, c, d⟩ = false := by unfold RpV.ok; simp [hx]
            have HCT : Hid (Calls Try.prog 100 #[.int .i64 b] wr fun e w' => e = .returned (.bool false) ∧ wr = w') := by have := wtick_any wr b; rw [hx] at this; exact Lib.hid this
            have HOK := Lib.hid hok
            have hix : ∀ wz, (Instr.index 145 (.agg #[.int .i64 a, .int .i64 b, .int .i64 c, .int .i64 d]) (.int .i64 1)).run Try.prog wz = .ok (.int .i64 b) wz := fun wz => run_idx4 wz _ _ _ _ 1 _ rfl (by omega)
            clear hx hok
            go_wp2_with fail
            with_reducible refine (HCT.out).mono ?_
            rintro e w' ⟨rfl, rfl⟩
            go_wp2
            go_ret2
            exact rpF_bad HOK.out HBj.out
        · cases hx : tkB c with
          | true =>
            have hxx := tkB_true hx
            have HT : Hid (∀ i x, i < 2 + 1 → [a, b, c, d][i]? = some x → tkB x = true) := by
              refine Lib.hid fun i x hi hx2 => ?_
              rcases (by omega : i < 2 ∨ i = 2) with h5 | h5
              · exact HTj.out i x h5 hx2
              · subst h5; simp at hx2; subst hx2; exact hx
            have Hc := Lib.hid hx
            have HCT : Hid (Calls Try.prog 100 #[.int .i64 c] wr fun e w' => e = .returned (.bool true) ∧ wr = w') := by have := wtick_any wr c; rw [hx] at this; exact Lib.hid this
            have eu := u64_nat hxx.1 hxx.2
            obtain ⟨xn, hxn⟩ : ∃ xn : Nat, c.toNat = xn := ⟨_, rfl⟩
            have hxl : xn ≤ 4611686018427387903 := by omega
            rw [hxn] at eu
            have HXN := Lib.hid hxn
            have HAP : Hid (Calls Try.prog 71 #[.slice XA (2 + 8 * 2) cc, .int .u64 (xn : Int), .int .i64 8] wr fun e w' => ∃ A' c', e = .returned (.slice A' (2 + 8 * 2 + 8) c') ∧ OwnB w' w.heap.size A' (2 + 8 * 2 + 8) c' (RpV.upto ⟨(n : Int), false, a, b, c, d⟩ 2 ++ Tk.wordV xn 8) ∧ Below w.heap.size wr w') := Lib.hid (append8 wr w.heap.size XA (2 + 8 * 2) cc xn _ HOj.out HBj.out.size (by omega) (by omega))
            have hix : ∀ wz, (Instr.index 145 (.agg #[.int .i64 a, .int .i64 b, .int .i64 c, .int .i64 d]) (.int .i64 2)).run Try.prog wz = .ok (.int .i64 c) wz := fun wz => run_idx4 wz _ _ _ _ 2 _ rfl (by omega)
            clear hx hxx hxn
            go_wp2_with fail
            with_reducible refine (HCT.out).mono ?_
            rintro e w' ⟨rfl, rfl⟩
            go_wp2_with fail
            refine (HAP.out).mono ?_
            rintro e w2 ⟨A', c', rfl, ho2, hb2⟩
            have HST : Hid (RpI w ⟨(n : Int), false, a, b, c, d⟩ (2 + 1) (.slice A' (2 + 8 * 2 + 8) c') w2) := Lib.hid (rpI_step (n := c) rfl (by rw [HXN.out]; exact ho2) (HBj.out.trans hb2))
            clear ho2 hb2
            go_wp2
            go_roundw
            case rel => exact ⟨2 + 1, by omega, rfl, HST.out, HT.out⟩
            case measure => simp [intOf]
          | false =>
            have hok : RpV.ok ⟨(n : Int), false, a, b, c, d⟩ = false := by unfold RpV.ok; simp [hx]
            have HCT : Hid (Calls Try.prog 100 #[.int .i64 c] wr fun e w' => e = .returned (.bool false) ∧ wr = w') := by have := wtick_any wr c; rw [hx] at this; exact Lib.hid this
            have HOK := Lib.hid hok
            have hix : ∀ wz, (Instr.index 145 (.agg #[.int .i64 a, .int .i64 b, .int .i64 c, .int .i64 d]) (.int .i64 2)).run Try.prog wz = .ok (.int .i64 c) wz := fun wz => run_idx4 wz _ _ _ _ 2 _ rfl (by omega)
            clear hx hok
            go_wp2_with fail
            with_reducible refine (HCT.out).mono ?_
            rintro e w' ⟨rfl, rfl⟩
            go_wp2
            go_ret2
            exact rpF_bad HOK.out HBj.out
        · cases hx : tkB d with
          | true =>
            have hxx := tkB_true hx
            have HT : Hid (∀ i x, i < 3 + 1 → [a, b, c, d][i]? = some x → tkB x = true) := by
              refine Lib.hid fun i x hi hx2 => ?_
              rcases (by omega : i < 3 ∨ i = 3) with h5 | h5
              · exact HTj.out i x h5 hx2
              · subst h5; simp at hx2; subst hx2; exact hx
            have Hd := Lib.hid hx
            have HCT : Hid (Calls Try.prog 100 #[.int .i64 d] wr fun e w' => e = .returned (.bool true) ∧ wr = w') := by have := wtick_any wr d; rw [hx] at this; exact Lib.hid this
            have eu := u64_nat hxx.1 hxx.2
            obtain ⟨xn, hxn⟩ : ∃ xn : Nat, d.toNat = xn := ⟨_, rfl⟩
            have hxl : xn ≤ 4611686018427387903 := by omega
            rw [hxn] at eu
            have HXN := Lib.hid hxn
            have HAP : Hid (Calls Try.prog 71 #[.slice XA (2 + 8 * 3) cc, .int .u64 (xn : Int), .int .i64 8] wr fun e w' => ∃ A' c', e = .returned (.slice A' (2 + 8 * 3 + 8) c') ∧ OwnB w' w.heap.size A' (2 + 8 * 3 + 8) c' (RpV.upto ⟨(n : Int), false, a, b, c, d⟩ 3 ++ Tk.wordV xn 8) ∧ Below w.heap.size wr w') := Lib.hid (append8 wr w.heap.size XA (2 + 8 * 3) cc xn _ HOj.out HBj.out.size (by omega) (by omega))
            have hix : ∀ wz, (Instr.index 145 (.agg #[.int .i64 a, .int .i64 b, .int .i64 c, .int .i64 d]) (.int .i64 3)).run Try.prog wz = .ok (.int .i64 d) wz := fun wz => run_idx4 wz _ _ _ _ 3 _ rfl (by omega)
            clear hx hxx hxn
            go_wp2_with fail
            with_reducible refine (HCT.out).mono ?_
            rintro e w' ⟨rfl, rfl⟩
            go_wp2_with fail
            refine (HAP.out).mono ?_
            rintro e w2 ⟨A', c', rfl, ho2, hb2⟩
            have HST : Hid (RpI w ⟨(n : Int), false, a, b, c, d⟩ (3 + 1) (.slice A' (2 + 8 * 3 + 8) c') w2) := Lib.hid (rpI_step (n := d) rfl (by rw [HXN.out]; exact ho2) (HBj.out.trans hb2))
            clear ho2 hb2
            go_wp2
            go_roundw
            case rel => exact ⟨3 + 1, by omega, rfl, HST.out, HT.out⟩
            case measure => simp [intOf]
          | false =>
            have hok : RpV.ok ⟨(n : Int), false, a, b, c, d⟩ = false := by unfold RpV.ok; simp [hx]
            have HCT : Hid (Calls Try.prog 100 #[.int .i64 d] wr fun e w' => e = .returned (.bool false) ∧ wr = w') := by have := wtick_any wr d; rw [hx] at this; exact Lib.hid this
            have HOK := Lib.hid hok
            have hix : ∀ wz, (Instr.index 145 (.agg #[.int .i64 a, .int .i64 b, .int .i64 c, .int .i64 d]) (.int .i64 3)).run Try.prog wz = .ok (.int .i64 d) wz := fun wz => run_idx4 wz _ _ _ _ 3 _ rfl (by omega)
            clear hx hok
            go_wp2_with fail
            with_reducible refine (HCT.out).mono ?_
            rintro e w' ⟨rfl, rfl⟩
            go_wp2
            go_ret2
            exact rpF_bad HOK.out HBj.out
        · have hok : RpV.ok ⟨(n : Int), false, a, b, c, d⟩ = true := by
            have h := HTj.out
            have h0 := h 0 a (by omega) rfl
            have h1 := h 1 b (by omega) rfl
            have h2 := h 2 c (by omega) rfl
            have h3 := h 3 d (by omega) rfl
            unfold RpV.ok
            rw [HEB.out]; simp [h0, h1, h2, h3]
          have HOK := Lib.hid hok
          clear hok
          go_wp2
          go_ret2
          refine ⟨XA, 34, cc, by rw [HOK.out]; rfl, ?_, HBj.out⟩
          rw [HOK.out]
          have := HOj.out
          rw [RpV.upto4] at this
          exact this.ownV
    | true =>
      have HI : Hid (RpI w ⟨(n : Int), true, a, b, c, d⟩ 0 (.slice (some ⟨w.heap.size + 1, 0, none⟩) 2 2) ((w.alloc (.cells #[.int .i64 (n : Int), .bool true, .int .i64 a, .int .i64 b, .int .i64 c, .int .i64 d] 82)).alloc (.cells #[.int .u8 (n : Int), .int .u8 1] 5))) := Lib.hid (rpI_zero rfl 1 rfl (HO2.out.mono (by omega)) HB2.out)
      clear HO HO2 HB1 HB2 HK1 HK0 HB0
      go_enter Try.func50, Try.ntmps50
      go_wp2_with fail
      go_loopw [4, 32] (fun pv iv wr => ∃ j : Nat, j ≤ 4 ∧ iv = .int .i64 (j : Int) ∧ RpI w ⟨(n : Int), true, a, b, c, d⟩ j pv wr ∧ ∀ i x, i < j → [a, b, c, d][i]? = some x → tkB x = true) (fun _ iv _ => 4 - (intOf iv).toNat)
      case atStart => exact ⟨0, by omega, rfl, HI.out, fun i x h => by omega⟩
      case round =>
        obtain ⟨j, hj, rfl, ⟨XA, cc, rfl, ho, hb⟩, htk⟩ := hrel
        have HOj := Lib.hid ho
        have HBj := Lib.hid hb
        have HTj := Lib.hid htk
        clear ho hb htk HI c0 c1 c2 c3 c4 c5
        rcases (by omega : j = 0 ∨ j = 1 ∨ j = 2 ∨ j = 3 ∨ j = 4) with rfl | rfl | rfl | rfl | rfl
        · cases hx : tkB a with
          | true =>
            have hxx := tkB_true hx
            have HT : Hid (∀ i x, i < 0 + 1 → [a, b, c, d][i]? = some x → tkB x = true) := by
              refine Lib.hid fun i x hi hx2 => ?_
              rcases (by omega : i < 0 ∨ i = 0) with h5 | h5
              · exact HTj.out i x h5 hx2
              · subst h5; simp at hx2; subst hx2; exact hx
            have Ha := Lib.hid hx
            have HCT : Hid (Calls Try.prog 100 #[.int .i64 a] wr fun e w' => e = .returned (.bool true) ∧ wr = w') := by have := wtick_any wr a; rw [hx] at this; exact Lib.hid this
            have eu := u64_nat hxx.1 hxx.2
            obtain ⟨xn, hxn⟩ : ∃ xn : Nat, a.toNat = xn := ⟨_, rfl⟩
            have hxl : xn ≤ 4611686018427387903 := by omega
            rw [hxn] at eu
            have HXN := Lib.hid hxn
            have HAP : Hid (Calls Try.prog 71 #[.slice XA (2 + 8 * 0) cc, .int .u64 (xn : Int), .int .i64 8] wr fun e w' => ∃ A' c', e = .returned (.slice A' (2 + 8 * 0 + 8) c') ∧ OwnB w' w.heap.size A' (2 + 8 * 0 + 8) c' (RpV.upto ⟨(n : Int), true, a, b, c, d⟩ 0 ++ Tk.wordV xn 8) ∧ Below w.heap.size wr w') := Lib.hid (append8 wr w.heap.size XA (2 + 8 * 0) cc xn _ HOj.out HBj.out.size (by omega) (by omega))
            have hix : ∀ wz, (Instr.index 145 (.agg #[.int .i64 a, .int .i64 b, .int .i64 c, .int .i64 d]) (.int .i64 0)).run Try.prog wz = .ok (.int .i64 a) wz := fun wz => run_idx4 wz _ _ _ _ 0 _ rfl (by omega)
            clear hx hxx hxn
            go_wp2_with fail
            with_reducible refine (HCT.out).mono ?_
            rintro e w' ⟨rfl, rfl⟩
            go_wp2_with fail
            refine (HAP.out).mono ?_
            rintro e w2 ⟨A', c', rfl, ho2, hb2⟩
            have HST : Hid (RpI w ⟨(n : Int), true, a, b, c, d⟩ (0 + 1) (.slice A' (2 + 8 * 0 + 8) c') w2) := Lib.hid (rpI_step (n := a) rfl (by rw [HXN.out]; exact ho2) (HBj.out.trans hb2))
            clear ho2 hb2
            go_wp2
            go_roundw
            case rel => exact ⟨0 + 1, by omega, rfl, HST.out, HT.out⟩
            case measure => simp [intOf]
          | false =>
            have hok : RpV.ok ⟨(n : Int), true, a, b, c, d⟩ = false := by unfold RpV.ok; simp [hx]
            have HCT : Hid (Calls Try.prog 100 #[.int .i64 a] wr fun e w' => e = .returned (.bool false) ∧ wr = w') := by have := wtick_any wr a; rw [hx] at this; exact Lib.hid this
            have HOK := Lib.hid hok
            have hix : ∀ wz, (Instr.index 145 (.agg #[.int .i64 a, .int .i64 b, .int .i64 c, .int .i64 d]) (.int .i64 0)).run Try.prog wz = .ok (.int .i64 a) wz := fun wz => run_idx4 wz _ _ _ _ 0 _ rfl (by omega)
            clear hx hok
            go_wp2_with fail
            with_reducible refine (HCT.out).mono ?_
            rintro e w' ⟨rfl, rfl⟩
            go_wp2
            go_ret2
            exact rpF_bad HOK.out HBj.out
        · cases hx : tkB b with
          | true =>
            have hxx := tkB_true hx
            have HT : Hid (∀ i x, i < 1 + 1 → [a, b, c, d][i]? = some x → tkB x = true) := by
              refine Lib.hid fun i x hi hx2 => ?_
              rcases (by omega : i < 1 ∨ i = 1) with h5 | h5
              · exact HTj.out i x h5 hx2
              · subst h5; simp at hx2; subst hx2; exact hx
            have Hb := Lib.hid hx
            have HCT : Hid (Calls Try.prog 100 #[.int .i64 b] wr fun e w' => e = .returned (.bool true) ∧ wr = w') := by have := wtick_any wr b; rw [hx] at this; exact Lib.hid this
            have eu := u64_nat hxx.1 hxx.2
            obtain ⟨xn, hxn⟩ : ∃ xn : Nat, b.toNat = xn := ⟨_, rfl⟩
            have hxl : xn ≤ 4611686018427387903 := by omega
            rw [hxn] at eu
            have HXN := Lib.hid hxn
            have HAP : Hid (Calls Try.prog 71 #[.slice XA (2 + 8 * 1) cc, .int .u64 (xn : Int), .int .i64 8] wr fun e w' => ∃ A' c', e = .returned (.slice A' (2 + 8 * 1 + 8) c') ∧ OwnB w' w.heap.size A' (2 + 8 * 1 + 8) c' (RpV.upto ⟨(n : Int), true, a, b, c, d⟩ 1 ++ Tk.wordV xn 8) ∧ Below w.heap.size wr w') := Lib.hid (append8 wr w.heap.size XA (2 + 8 * 1) cc xn _ HOj.out HBj.out.size (by omega) (by omega))
            have hix : ∀ wz, (Instr.index 145 (.agg #[.int .i64 a, .int .i64 b, .int .i64 c, .int .i64 d]) (.int .i64 1)).run Try.prog wz = .ok (.int .i64 b) wz := fun wz => run_idx4 wz _ _ _ _ 1 _ rfl (by omega)
            clear hx hxx hxn
            go_wp2_with fail
            with_reducible refine (HCT.out).mono ?_
            rintro e w' ⟨rfl, rfl⟩
            go_wp2_with fail
            refine (HAP.out).mono ?_
            rintro e w2 ⟨A', c', rfl, ho2, hb2⟩
            have HST : Hid (RpI w ⟨(n : Int), true, a, b, c, d⟩ (1 + 1) (.slice A' (2 + 8 * 1 + 8) c') w2) := Lib.hid (rpI_step (n := b) rfl (by rw [HXN.out]; exact ho2) (HBj.out.trans hb2))
            clear ho2 hb2
            go_wp2
            go_roundw
            case rel => exact ⟨1 + 1, by omega, rfl, HST.out, HT.out⟩
            case measure => simp [intOf]
          | false =>
            have hok : RpV.ok ⟨(n : Int), true, a, b, c, d⟩ = false := by unfold RpV.ok; simp [hx]
            have HCT : Hid (Calls Try.prog 100 #[.int .i64 b] wr fun e w' => e = .returned (.bool false) ∧ wr = w') := by have := wtick_any wr b; rw [hx] at this; exact Lib.hid this
            have HOK := Lib.hid hok
            have hix : ∀ wz, (Instr.index 145 (.agg #[.int .i64 a, .int .i64 b, .int .i64 c, .int .i64 d]) (.int .i64 1)).run Try.prog wz = .ok (.int .i64 b) wz := fun wz => run_idx4 wz _ _ _ _ 1 _ rfl (by omega)
            clear hx hok
            go_wp2_with fail
            with_reducible refine (HCT.out).mono ?_
            rintro e w' ⟨rfl, rfl⟩
            go_wp2
            go_ret2
            exact rpF_bad HOK.out HBj.out
        · cases hx : tkB c with
          | true =>
            have hxx := tkB_true hx
            have HT : Hid (∀ i x, i < 2 + 1 → [a, b, c, d][i]? = some x → tkB x = true) := by
              refine Lib.hid fun i x hi hx2 => ?_
              rcases (by omega : i < 2 ∨ i = 2) with h5 | h5
              · exact HTj.out i x h5 hx2
              · subst h5; simp at hx2; subst hx2; exact hx
            have Hc := Lib.hid hx
            have HCT : Hid (Calls Try.prog 100 #[.int .i64 c] wr fun e w' => e = .returned (.bool true) ∧ wr = w') := by have := wtick_any wr c; rw [hx] at this; exact Lib.hid this
            have eu := u64_nat hxx.1 hxx.2
            obtain ⟨xn, hxn⟩ : ∃ xn : Nat, c.toNat = xn := ⟨_, rfl⟩
            have hxl : xn ≤ 4611686018427387903 := by omega
            rw [hxn] at eu
            have HXN := Lib.hid hxn
            have HAP : Hid (Calls Try.prog 71 #[.slice XA (2 + 8 * 2) cc, .int .u64 (xn : Int), .int .i64 8] wr fun e w' => ∃ A' c', e = .returned (.slice A' (2 + 8 * 2 + 8) c') ∧ OwnB w' w.heap.size A' (2 + 8 * 2 + 8) c' (RpV.upto ⟨(n : Int), true, a, b, c, d⟩ 2 ++ Tk.wordV xn 8) ∧ Below w.heap.size wr w') := Lib.hid (append8 wr w.heap.size XA (2 + 8 * 2) cc xn _ HOj.out HBj.out.size (by omega) (by omega))
            have hix : ∀ wz, (Instr.index 145 (.agg #[.int .i64 a, .int .i64 b, .int .i64 c, .int .i64 d]) (.int .i64 2)).run Try.prog wz = .ok (.int .i64 c) wz := fun wz => run_idx4 wz _ _ _ _ 2 _ rfl (by omega)
            clear hx hxx hxn
            go_wp2_with fail
            with_reducible refine (HCT.out).mono ?_
            rintro e w' ⟨rfl, rfl⟩
            go_wp2_with fail
            refine (HAP.out).mono ?_
            rintro e w2 ⟨A', c', rfl, ho2, hb2⟩
            have HST : Hid (RpI w ⟨(n : Int), true, a, b, c, d⟩ (2 + 1) (.slice A' (2 + 8 * 2 + 8) c') w2) := Lib.hid (rpI_step (n := c) rfl (by rw [HXN.out]; exact ho2) (HBj.out.trans hb2))
            clear ho2 hb2
            go_wp2
            go_roundw
            case rel => exact ⟨2 + 1, by omega, rfl, HST.out, HT.out⟩
            case measure => simp [intOf]
          | false =>
            have hok : RpV.ok ⟨(n : Int), true, a, b, c, d⟩ = false := by unfold RpV.ok; simp [hx]
            have HCT : Hid (Calls Try.prog 100 #[.int .i64 c] wr fun e w' => e = .returned (.bool false) ∧ wr = w') := by have := wtick_any wr c; rw [hx] at this; exact Lib.hid this
            have HOK := Lib.hid hok
            have hix : ∀ wz, (Instr.index 145 (.agg #[.int .i64 a, .int .i64 b, .int .i64 c, .int .i64 d]) (.int .i64 2)).run Try.prog wz = .ok (.int .i64 c) wz := fun wz => run_idx4 wz _ _ _ _ 2 _ rfl (by omega)
            clear hx hok
            go_wp2_with fail
            with_reducible refine (HCT.out).mono ?_
            rintro e w' ⟨rfl, rfl⟩
            go_wp2
            go_ret2
            exact rpF_bad HOK.out HBj.out
        · cases hx : tkB d with
          | true =>
            have hxx := tkB_true hx
            have HT : Hid (∀ i x, i < 3 + 1 → [a, b, c, d][i]? = some x → tkB x = true) := by
              refine Lib.hid fun i x hi hx2 => ?_
              rcases (by omega : i < 3 ∨ i = 3) with h5 | h5
              · exact HTj.out i x h5 hx2
              · subst h5; simp at hx2; subst hx2; exact hx
            have Hd := Lib.hid hx
            have HCT : Hid (Calls Try.prog 100 #[.int .i64 d] wr fun e w' => e = .returned (.bool true) ∧ wr = w') := by have := wtick_any wr d; rw [hx] at this; exact Lib.hid this
            have eu := u64_nat hxx.1 hxx.2
            obtain ⟨xn, hxn⟩ : ∃ xn : Nat, d.toNat = xn := ⟨_, rfl⟩
            have hxl : xn ≤ 4611686018427387903 := by omega
            rw [hxn] at eu
            have HXN := Lib.hid hxn
            have HAP : Hid (Calls Try.prog 71 #[.slice XA (2 + 8 * 3) cc, .int .u64 (xn : Int), .int .i64 8] wr fun e w' => ∃ A' c', e = .returned (.slice A' (2 + 8 * 3 + 8) c') ∧ OwnB w' w.heap.size A' (2 + 8 * 3 + 8) c' (RpV.upto ⟨(n : Int), true, a, b, c, d⟩ 3 ++ Tk.wordV xn 8) ∧ Below w.heap.size wr w') := Lib.hid (append8 wr w.heap.size XA (2 + 8 * 3) cc xn _ HOj.out HBj.out.size (by omega) (by omega))
            have hix : ∀ wz, (Instr.index 145 (.agg #[.int .i64 a, .int .i64 b, .int .i64 c, .int .i64 d]) (.int .i64 3)).run Try.prog wz = .ok (.int .i64 d) wz := fun wz => run_idx4 wz _ _ _ _ 3 _ rfl (by omega)
            clear hx hxx hxn
            go_wp2_with fail
            with_reducible refine (HCT.out).mono ?_
            rintro e w' ⟨rfl, rfl⟩
            go_wp2_with fail
            refine (HAP.out).mono ?_
            rintro e w2 ⟨A', c', rfl, ho2, hb2⟩
            have HST : Hid (RpI w ⟨(n : Int), true, a, b, c, d⟩ (3 + 1) (.slice A' (2 + 8 * 3 + 8) c') w2) := Lib.hid (rpI_step (n := d) rfl (by rw [HXN.out]; exact ho2) (HBj.out.trans hb2))
            clear ho2 hb2
            go_wp2
            go_roundw
            case rel => exact ⟨3 + 1, by omega, rfl, HST.out, HT.out⟩
            case measure => simp [intOf]
          | false =>
            have hok : RpV.ok ⟨(n : Int), true, a, b, c, d⟩ = false := by unfold RpV.ok; simp [hx]
            have HCT : Hid (Calls Try.prog 100 #[.int .i64 d] wr fun e w' => e = .returned (.bool false) ∧ wr = w') := by have := wtick_any wr d; rw [hx] at this; exact Lib.hid this
            have HOK := Lib.hid hok
            have hix : ∀ wz, (Instr.index 145 (.agg #[.int .i64 a, .int .i64 b, .int .i64 c, .int .i64 d]) (.int .i64 3)).run Try.prog wz = .ok (.int .i64 d) wz := fun wz => run_idx4 wz _ _ _ _ 3 _ rfl (by omega)
            clear hx hok
            go_wp2_with fail
            with_reducible refine (HCT.out).mono ?_
            rintro e w' ⟨rfl, rfl⟩
            go_wp2
            go_ret2
            exact rpF_bad HOK.out HBj.out
        · have hok : RpV.ok ⟨(n : Int), true, a, b, c, d⟩ = true := by
            have h := HTj.out
            have h0 := h 0 a (by omega) rfl
            have h1 := h 1 b (by omega) rfl
            have h2 := h 2 c (by omega) rfl
            have h3 := h 3 d (by omega) rfl
            unfold RpV.ok
            rw [HEB.out]; simp [h0, h1, h2, h3]
          have HOK := Lib.hid hok
          clear hok
          go_wp2
          go_ret2
          refine ⟨XA, 34, cc, by rw [HOK.out]; rfl, ?_, HBj.out⟩
          rw [HOK.out]
          have := HOj.out
          rw [RpV.upto4] at this
          exact this.ownV
end Go.Proofs.Ytndgladfcogiiaa


/- Contracts: a reply. -/
namespace Go.Proofs.Ytndgladfcogiiaa
open Go.RowKit
set_option maxRecDepth 100000
set_option linter.unusedVariables false

theorem rp_byte {r : RpV} (h : r.ok = true) : ∀ d ∈ r.bytes, d < 256 := by
  unfold RpV.ok RpV.eB at h
  simp only [Bool.and_eq_true, decide_eq_true_eq] at h
  intro d hd
  unfold RpV.bytes at hd
  simp only [List.mem_append, List.mem_cons, List.not_mem_nil, or_false] at hd
  rcases hd with (((hd | hd) | hd) | hd) | hd
  · rcases hd with rfl | rfl
    · omega
    · split <;> omega
  all_goals exact Tk.wordV_lt _ _ d hd
theorem reply_goodF (w : World) (r : RpV) (h : r.ok = true) : Calls Try.prog 50 #[r.val] w fun e w' => ∃ XA xc, e = .returned (.tuple #[.slice XA 34 xc, .int .i64 0]) ∧ OwnV w' w.heap.size XA 34 xc (r.bytes.map V8) ∧ Below w.heap.size w w' := by
  refine (reply_anyF w r).mono ?_
  rintro e w' ⟨XA, xn, xc, he, ha, hb⟩
  rw [h] at he ha
  have hl := ha.len
  simp only [List.length_map, if_true, RpV.len] at hl
  subst hl
  exact ⟨XA, xc, he, ha, hb⟩
theorem reply_badF (w : World) (r : RpV) (h : r.ok = false) : Calls Try.prog 50 #[r.val] w fun e w' => ∃ XA xn xc, e = .returned (.tuple #[.slice XA xn xc, .int .i64 1]) ∧ Below w.heap.size w w' := by
  refine (reply_anyF w r).mono ?_
  rintro e w' ⟨XA, xn, xc, he, ha, hb⟩
  rw [h] at he
  exact ⟨XA, xn, xc, he, hb⟩
abbrev rpW (w : World) (r : RpV) : World := w.alloc (.cells #[.int .i64 r.E, .bool r.G, .int .i64 r.a, .int .i64 r.b, .int .i64 r.c, .int .i64 r.d] 82)
theorem rpBl (w : World) (r : RpV) : Below w.heap.size w (rpW w r) := (Below.refl _ _).alloc (Nat.le_refl _) _
theorem rpK (w : World) (r : RpV) : BlkL (rpW w r) w.heap.size r.cells := BlkL.new w _ _
set_option maxHeartbeats 800000 in
theorem cn_reply_bad (w : World) (v : Value) (r : RpV) (h : r.ok = false) : Calls Try.prog 63 #[v, r.val] w fun e w' => e = .returned (.int .i64 1) ∧ Below w.heap.size w w' := by
  have HR := Lib.hid (reply_badF (rpW w r) r h)
  have k := rpK w r
  have c0 := k.cell 0 _ rfl
  have c1 := k.cell 1 _ rfl
  have c2 := k.cell 2 _ rfl
  have c3 := k.cell 3 _ rfl
  have c4 := k.cell 4 _ rfl
  have c5 := k.cell 5 _ rfl
  have lk := k.lt
  have HB := Lib.hid (rpBl w r)
  clear k
  go_enter Try.func63, Try.ntmps63
  go_wp2_with fail
  with_reducible refine (HR.out).mono ?_
  rintro e w1 ⟨XA, xn, xc, rfl, hb⟩
  have HB1 := Lib.hid (HB.out.trans (hb.mono (by simp)))
  clear hb
  go_wp2
  go_ret
  exact ⟨rfl, HB1.out⟩
set_option maxHeartbeats 800000 in
theorem cn_reply_none (w : World) (B cb : Nat) (D : CnD) (h : CnM w B cb D) (r : RpV) (hr : r.ok = true) (ho : D.ob = none) : Calls Try.prog 63 #[.pointer (some ⟨cb, 0, none⟩), r.val] w fun e w' => e = .returned (.int .i64 7) ∧ Below w.heap.size w w' := by
  have HR := Lib.hid (reply_goodF (rpW w r) r hr)
  have k := rpK w r
  have c0 := k.cell 0 _ rfl
  have c1 := k.cell 1 _ rfl
  have c2 := k.cell 2 _ rfl
  have c3 := k.cell 3 _ rfl
  have c4 := k.cell 4 _ rfl
  have c5 := k.cell 5 _ rfl
  have lk := k.lt
  have HB := Lib.hid (rpBl w r)
  have HC := Lib.hid (h.blk.below (rpBl w r))
  clear k h
  go_enter Try.func63, Try.ntmps63
  go_wp2_with fail
  with_reducible refine (HR.out).mono ?_
  rintro e w1 ⟨XA, xc, rfl, ha, hb⟩
  have HB1 := Lib.hid (HB.out.trans (hb.mono (by simp)))
  have hc := HC.out.below hb
  have d3 : w1.cell? ⟨cb, 3, none⟩ = some (.pointer none) := by
    have := hc.cell 3 _ rfl
    rw [ho] at this
    exact this
  have ld := hc.lt
  clear hb ha hc
  go_wp2
  go_ret
  exact ⟨rfl, HB1.out⟩
theorem cn_reply_nil (w : World) (r : RpV) (hr : r.ok = true) : Calls Try.prog 63 #[.pointer none, r.val] w fun e w' => e = .returned (.int .i64 7) ∧ Below w.heap.size w w' := by
  have HR := Lib.hid (reply_goodF (rpW w r) r hr)
  have k := rpK w r
  have c0 := k.cell 0 _ rfl
  have c1 := k.cell 1 _ rfl
  have c2 := k.cell 2 _ rfl
  have c3 := k.cell 3 _ rfl
  have c4 := k.cell 4 _ rfl
  have c5 := k.cell 5 _ rfl
  have lk := k.lt
  have HB := Lib.hid (rpBl w r)
  clear k
  go_enter Try.func63, Try.ntmps63
  go_wp2_with fail
  with_reducible refine (HR.out).mono ?_
  rintro e w1 ⟨XA, xc, rfl, ha, hb⟩
  have HB1 := Lib.hid (HB.out.trans (hb.mono (by simp)))
  clear hb ha
  go_wp2
  go_ret
  exact ⟨rfl, HB1.out⟩
abbrev CnD.led (D : CnD) (A : Option Addr) (c : Nat) (L : List TkR) : CnD := { D with HA := A, hc := c, toks := L }
/-- What is to be written behind a reply. -/
def usR (D : CnD) (r : RpV) : List Nat := if D.cl then D.us else D.us ++ Fr.encV r.bytes
/-- What stands in the midst of a reply. -/
def RpS (w : World) (B cb : Nat) (D : CnD) (q : Nat × ClR) (r : RpV) (XA : Option Addr) (xc : Nat) (wx : World) : Prop :=
  ∃ A c L, CnM wx B cb (D.led A c L) ∧ Stp w wx cb D (D.led A c L) ∧ L.map TkR.v = afterV (D.toks.map TkR.v) q.2.v r.E r.c ∧ OwnV wx w.heap.size XA 34 xc (r.bytes.map V8) ∧ ∀ y ∈ bkV XA, y ∉ (D.led A c L).M cb
theorem rp_mid {w w1 w2 : World} {B cb : Nat} {D : CnD} {q : Nat × ClR} {r : RpV} {XA : Option Addr} {xc : Nat} (h1 : CnM w1 B cb D) (s1 : Stp w w1 cb D D) (hlt : ∀ y ∈ D.M cb, y < w.heap.size) (ho : D.ob = some q) (ht : OwnV w1 w.heap.size XA 34 xc (r.bytes.map V8))
    {A' : Option Addr} {c' : Nat} {L' : List TkR} (hown : OwnS w2 B 3 A' L'.length c' (FTk L')) (hf : Off (bkV D.HA) w1 w2) (hbk : ∀ y ∈ bkV A', y ∈ bkV D.HA ∨ w1.heap.size ≤ y) (hv : L'.map TkR.v = afterV (D.toks.map TkR.v) q.2.v r.E r.c) (hk : ∀ t ∈ L', t ∈ D.toks ∨ (t.A = q.2.A ∧ t.c = q.2.c ∧ t.ks = q.2.ks)) :
    RpS w B cb D q r XA xc (w2.setCell ⟨cb, 6, none⟩ (.slice A' L'.length c')) := by
  have dj := h1.dj
  have hcA : cb ∉ bkV A' := fun hh => by
    rcases hbk cb hh with h | h
    · exact dj.cH h
    · have := h1.blk.lt; omega
  have fo : Off [cb] w2 (w2.setCell ⟨cb, 6, none⟩ (.slice A' L'.length c')) := (Off.refl _ _).setCell (p := ⟨cb, 6, none⟩) (by simp) _
  have fo2 : Off (cb :: bkV D.HA) w1 (w2.setCell ⟨cb, 6, none⟩ (.slice A' L'.length c')) := (hf.mono (fun y hy => List.mem_cons_of_mem _ hy)).trans (fo.mono (fun y hy => by simp at hy; subst hy; simp))
  have hb : BlkL (w2.setCell ⟨cb, 6, none⟩ (.slice A' L'.length c')) cb (CnD.cells (D.led A' c' L')) := by
    have := (h1.blk.off hf dj.cH).set 6 (.slice A' L'.length c') (by simp [CnD.cells])
    exact this
  obtain ⟨o1, o2, o3, o4⟩ := h1.out q ho
  have hr := h1.chgH s1 A' c' L' fo2 hb (hown.off fo (fun y hy hh => by simp at hh; subst hh; exact hcA hy))
    (fun t ht => by
      rcases hk t ht with h | ⟨e1, e2, e3⟩
      · exact h1.kh t h
      · rw [e1, e2, e3]; exact o4)
    (fun t ht y hy => by
      rcases hk t ht with h | ⟨e1, e2, e3⟩
      · exact s1.r y (by simp only [CnD.R, List.mem_append, List.mem_flatMap]; exact .inr (.inr ⟨t, h, hy⟩))
      · rw [e1] at hy; exact s1.r y (by unfold CnD.R; rw [ho]; simp [hy]))
    hbk
  have hXM : ∀ y ∈ bkV XA, y ∉ D.M cb := fun y hy hh => by have := hlt y hh; have := (ht.lt y hy).1; omega
  refine ⟨A', c', L', hr.1, hr.2, hv, ?_, fun y hy hh => ?_⟩
  · refine ht.off fo2 (fun y hy hh => hXM y hy ?_)
    rcases List.mem_cons.1 hh with rfl | hh
    · simp [CnD.M]
    · simp [CnD.M, hh]
  · simp only [CnD.M, List.mem_cons, List.mem_append] at hh
    rcases hh with hh | hh | hh | hh | hh
    · exact hXM y hy (by subst hh; simp [CnD.M])
    · exact hXM y hy (by simp [CnD.M, hh])
    · exact hXM y hy (by simp [CnD.M, hh])
    · exact hXM y hy (by simp [CnD.M, hh])
    · rcases hbk y hh with h | h
      · exact hXM y hy (by simp [CnD.M, h])
      · have := (ht.lt y hy).2; omega
set_option maxHeartbeats 1600000 in
theorem cn_reply_good (w : World) (B cb : Nat) (D : CnD) (h : CnM w B cb D) (hB : B ≤ w.heap.size) (r : RpV) (hr : r.ok = true) (q : Nat × ClR) (ho : D.ob = some q) (h3 : r.E ≠ 0 ∨ q.2.o ≠ 3) (hn : D.toks.length ≤ 1000000) (hu : D.us.length + 38 ≤ 140737488355328) :
    Calls Try.prog 63 #[.pointer (some ⟨cb, 0, none⟩), r.val] w fun e w' => ∃ A' c' L' A2 c2, CnE w B cb D { D with HA := A', hc := c', toks := L', ob := none, UA := A2, uc := c2, us := usR D r } (.int .i64 0) e w' ∧ L'.map TkR.v = afterV (D.toks.map TkR.v) q.2.v r.E r.c := by
  have HR := Lib.hid (reply_goodF (rpW w r) r hr)
  have k := rpK w r
  have c0 := k.cell 0 _ rfl
  have c1 := k.cell 1 _ rfl
  have c2 := k.cell 2 _ rfl
  have c3 := k.cell 3 _ rfl
  have c4 := k.cell 4 _ rfl
  have c5 := k.cell 5 _ rfl
  have lk := k.lt
  have HK := Lib.hid k
  have HLT0 : ∀ y ∈ D.M cb, y < w.heap.size := fun y hy => (h.lt y hy).2
  have HC := Lib.hid (h.below (rpBl w r))
  have HS := Lib.hid (Stp.of_below (cb := cb) (D := D) (rpBl w r))
  clear k
  go_enter Try.func63, Try.ntmps63
  go_wp2_with fail
  with_reducible refine (HR.out).mono ?_
  rintro e w1 ⟨XA, xc, rfl, ha, hb⟩
  have H1 := Lib.hid (HC.out.below hb)
  have S1 := Lib.hid (HS.out.trans (Stp.of_below hb))
  have HT : Hid (OwnV w1 w.heap.size XA 34 xc (r.bytes.map V8)) := Lib.hid (ha.mono (by simp))
  have HK1 := Lib.hid (HK.out.below hb)
  have b0 := HK1.out.cell 0 _ rfl
  have b1 := HK1.out.cell 1 _ rfl
  have b2 := HK1.out.cell 2 _ rfl
  have b3 := HK1.out.cell 3 _ rfl
  have b4 := HK1.out.cell 4 _ rfl
  have b5 := HK1.out.cell 5 _ rfl
  have lb := HK1.out.lt
  have d3 : w1.cell? ⟨cb, 3, none⟩ = some (.pointer (some ⟨q.1, 0, none⟩)) := by
    have := H1.out.blk.cell 3 _ rfl
    rw [ho] at this
    exact this
  have d6 : w1.cell? ⟨cb, 6, none⟩ = some (.slice D.HA D.toks.length D.hc) := H1.out.blk.cell 6 _ rfl
  have f6 := H1.out.blk.froz 6 (by simp [CnD.cells])
  have ld := H1.out.blk.lt
  obtain ⟨o1, o2, o3, o4⟩ := H1.out.out q ho
  have q0 : w1.cell? ⟨q.1, 0, none⟩ = some (.int .u8 q.2.o) := o1.cell 0 _ rfl
  have q1 : w1.cell? ⟨q.1, 1, none⟩ = some (.int .i64 q.2.p) := o1.cell 1 _ rfl
  have q2 : w1.cell? ⟨q.1, 2, none⟩ = some (.slice q.2.A q.2.ks.length q.2.c) := o1.cell 2 _ rfl
  have q3 : w1.cell? ⟨q.1, 3, none⟩ = some (.int .i64 q.2.s) := o1.cell 3 _ rfl
  have lq := o1.lt
  have hz1 := hb.size
  simp only [World.size_alloc] at hz1
  have HAF := Lib.hid (after_no3 w1.drew B D.HA D.toks.length D.hc D.toks ((H1.out.held.below ((Below.refl _ _).drew))) (by simp; omega) hn q.2 r h3)
  clear hb ha HR HC HS HK h c0 c1 c2 c3 c4 c5 lk o1 o2 o3 o4
  have HD := Lib.hid (H1.out.below (Below.refl _ _).drew)
  have HSD := Lib.hid (S1.out.trans (Stp.of_below (cb := cb) (D := D) (Below.refl w1.heap.size w1).drew))
  have HLT : Hid (∀ y ∈ D.M cb, y < w.heap.size) := Lib.hid HLT0
  clear HLT0
  go_upto_region 6 with (fail)
  go_cut [] (fun wx => RpS w B cb D q r XA xc wx)
  case first =>
    go_region_with (first | (go_at_call 113; refine (HAF.out).mono ?_; rintro e w2 ⟨A', c', L', rfl, hown, hf, hbk, hv, hk⟩; have g6 := (HD.out.blk.off hf HD.out.dj.cH).cell 6 _ rfl; have gf6 := (HD.out.blk.off hf HD.out.dj.cH).froz 6 (by simp [CnD.cells]); have gl := (HD.out.blk.off hf HD.out.dj.cH).lt))
    all_goals
      go_wp2_with fail
      go_meet
      exact rp_mid HD.out HSD.out HLT.out ho (HT.out.below (Below.refl _ _).drew) hown hf hbk hv hk
  case rest =>
    obtain ⟨A1, c1, L1, h2, s2, hv2, ht2, hn2⟩ := hcut
    have H2 := Lib.hid h2
    have S2 := Lib.hid s2
    have HV2 := Lib.hid hv2
    have HT2 := Lib.hid ht2
    have HN2 := Lib.hid hn2
    have g3 : wc.cell? ⟨cb, 3, none⟩ = some (.pointer (some ⟨q.1, 0, none⟩)) := by
      have := h2.blk.cell 3 _ rfl
      rw [show (D.led A1 c1 L1).ob = some q from ho] at this
      exact this
    have gf3 := h2.blk.froz 3 (by simp [CnD.cells])
    have g4 : wc.cell? ⟨cb, 4, none⟩ = some (.bool D.cl) := h2.blk.cell 4 _ rfl
    have gl := h2.blk.lt
    have fo : Off [cb] wc (wc.setCell ⟨cb, 3, none⟩ (.pointer none)) := (Off.refl _ _).setCell (p := ⟨cb, 3, none⟩) (by simp) _
    have hb := h2.blk.set 3 (.pointer none) (by simp [CnD.cells])
    have hr3 := h2.upd (D' := { D.led A1 c1 L1 with ob := none }) fo hb ⟨.inr ⟨rfl, rfl, rfl, rfl, rfl, rfl⟩, .inr ⟨rfl, rfl, rfl⟩, .inl rfl, .inr ⟨rfl, rfl, rfl⟩, rfl, rfl, rfl⟩
    have H3 := Lib.hid hr3.1
    have S3 := Lib.hid (S2.out.trans hr3.2)
    have HT3 := Lib.hid (HT2.out.off fo (fun y hy hh => by simp at hh; subst hh; exact HN2.out y hy (by simp [CnD.M])))
    have HBX := Lib.hid (HT3.out.arg' (rp_byte hr))
    clear h2 s2 hv2 ht2 hn2 hb hr3 fo HT2 HN2 H2 S2
    cases hcl : D.cl with
    | true =>
      rw [hcl] at g4
      have HCL := Lib.hid hcl
      clear hcl
      go_wp2
      go_ret
      refine ⟨A1, c1, L1, ⟨D.UA, D.uc, rfl, ?_, ?_⟩, HV2.out⟩
      · rw [show usR D r = D.us from if_pos HCL.out]; exact H3.out
      · rw [show usR D r = D.us from if_pos HCL.out]; exact S3.out
    | false =>
      rw [hcl] at g4
      have HCL := Lib.hid hcl
      clear hcl
      have HW := Lib.hid (cn_write _ B cb _ H3.out (by have := S3.out.off.size; simp at this ⊢; omega) XA 34 xc r.bytes HBX.out (by omega) (by omega) (by show D.us.length + (34 + 4) ≤ _; omega))
      go_wp2_with fail
      with_reducible refine (HW.out).mono ?_
      rintro e w4 ⟨A2, c2, rfl, h4, s4⟩
      have H4 := Lib.hid h4
      have S4 := Lib.hid (S3.out.trans s4)
      clear h4 s4 HW
      go_wp2
      go_ret
      have hno : ¬ D.cl = true := by rw [HCL.out]; simp
      refine ⟨A1, c1, L1, A2, c2, ⟨rfl, ?_, ?_⟩, HV2.out⟩
      · rw [show usR D r = D.us ++ Fr.encV r.bytes from if_neg hno]; exact H4.out
      · rw [show usR D r = D.us ++ Fr.encV r.bytes from if_neg hno]; exact S4.out
end Go.Proofs.Ytndgladfcogiiaa


/- Contracts: the first request that waits is taken. -/
namespace Go.Proofs.Ytndgladfcogiiaa
open Go.RowKit
set_option maxRecDepth 100000
set_option linter.unusedVariables false

theorem elemC : Try.prog.underlying 98 = some (.slice (Try.prog.elem 98)) := by kernel_rfl
theorem sizeC (w : World) : (sizeOf (Try.prog.elem 98)).run Try.prog w = .ok 4 w := by kernel_rfl
theorem run_tailC (w : World) (b off n c : Nat) : (Instr.slice 98 (.slice (some ⟨b, off, none⟩) (n + 1) c) (some (.int .i64 1)) none none).run Try.prog w = .ok (.slice (if c = 1 then some ⟨b, off, none⟩ else some ⟨b, off + 4, none⟩) n (c - 1)) w := by
  rw [run_slice_l (ht := elemC) (h0 := by omega) (h1 := by omega), sizeC]
  simp [Result.andThen, sliced, add_litV]
abbrev CnD.lin (D : CnD) (A : Option Addr) (c : Nat) (l : List ClR) (q : Option (Nat × ClR)) : CnD := { D with LA := A, lc := c, rows := l, ob := q }
/-- The line and what is out change. -/
theorem CnM.chgT {w w0 w' : World} {B cb : Nat} {D D0 : CnD} (h : CnM w B cb D) (hst : Stp w0 w cb D0 D) (hf : Off (cb :: bkV D.LA) w w') (A' : Option Addr) (c' : Nat) (rs : List ClR) (ob : Nat) (r : ClR) (hrs : D.rows = r :: rs) (hob : BlkL w ob r.cells) (hobB : B ≤ ob) (hobM : ob ∉ D.M cb) (hobw : w0.heap.size ≤ ob)
    (hb : BlkL w' cb (CnD.cells (D.lin A' c' rs (some (ob, r))))) (ho : OwnS w' B 4 A' rs.length c' (FCl rs)) (hA : ∀ y ∈ bkV A', y ∈ bkV D.LA) : CnM w' B cb (D.lin A' c' rs (some (ob, r))) ∧ Stp w0 w' cb D0 (D.lin A' c' rs (some (ob, r))) := by
  have hR : ∀ x ∈ D.rows, ∀ y ∈ bkV x.A, y ∈ D0.R ∨ w0.heap.size ≤ y := fun x hx y hy => hst.r y (by simp only [CnD.R, List.mem_append, List.mem_flatMap]; exact .inr (.inl ⟨x, hx, hy⟩))
  have hS : ∀ y ∈ cb :: bkV D.LA, y ∈ D.M cb := fun y hy => by
    rcases List.mem_cons.1 hy with rfl | hy
    · simp [CnD.M]
    · simp [CnD.M, hy]
  have dj := h.dj
  have hM : ∀ y ∈ (D.lin A' c' rs (some (ob, r))).M cb, y ∈ D.M cb := fun y hy => by
    simp only [CnD.M, List.mem_cons, List.mem_append] at hy ⊢
    rcases hy with hy | hy | hy | hy
    · exact .inl hy
    · exact .inr (.inl hy)
    · exact .inr (.inr (.inl (hA y hy)))
    · exact .inr (.inr (.inr hy))
  have hM' : ∀ y ∈ (D.lin A' c' rs (some (ob, r))).M cb, y ∈ D.M cb ∨ w.heap.size ≤ y := fun y hy => .inl (hM y hy)
  have hS' : ∀ y ∈ cb :: bkV D.LA, y ∈ D.M cb ∨ w.heap.size ≤ y := fun y hy => .inl (hS y hy)
  have hnd : ((D.lin A' c' rs (some (ob, r))).M cb).Nodup := by
    have e1 : D.M cb = (cb :: rbsD D.rb D.WA) ++ (bkV D.LA ++ (bkV D.UA ++ bkV D.HA)) := by simp [CnD.M]
    have e2 : (D.lin A' c' rs (some (ob, r))).M cb = (cb :: rbsD D.rb D.WA) ++ (bkV A' ++ (bkV D.UA ++ bkV D.HA)) := by simp [CnD.M]
    have hlt := h.lt
    have := h.nd
    rw [e2]
    rw [e1] at this hlt
    exact nodup_upd this (bkV_nodup _) (fun y hy => .inl (hA y hy)) (fun y hy => (hlt y (List.mem_append.2 (.inl hy))).2) (fun y hy => (hlt y (List.mem_append.2 (.inr (List.mem_append.2 (.inr hy))))).2)
  have kr := h.kl r (by rw [hrs]; simp)
  refine ⟨⟨hb, h.cbB, fun rb e => ?_, ho, fun q e => ?_, h.uns.off hf (not_cons dj.cU (fun y hy hh => dj.LU y hh hy)), h.ub, h.held.off hf (not_cons dj.cH (fun y hy hh => dj.LH y hh hy)), fun x hx => (h.kl x (by rw [hrs]; simp [hx])).step hf hS' hM', fun t ht => (h.kh t ht).step hf hS' hM', hnd⟩, ?_⟩
  · obtain ⟨h1, h2⟩ := h.rd rb e
    have hh : ∀ y ∈ rb :: bkV D.WA, y ∉ cb :: bkV D.LA := fun y hy => not_cons dj.cW dj.WL y (by rw [show D.rb = some rb from e]; exact hy)
    exact ⟨h1.off hf (hh rb (by simp)) (fun y hy => hh y (by simp [hy])), h2⟩
  · cases e
    exact ⟨hob.off hf (fun hh => hobM (hS _ hh)), hobB, fun hh => hobM (hM _ hh), kr.step hf hS' hM'⟩
  · refine ⟨hst.off.new hf (fun y hy => hst.m y (hS y hy)), fun y hy => hst.m y (hM y hy), fun y hy => ?_⟩
    simp only [CnD.R, List.mem_append, List.mem_flatMap, List.mem_cons] at hy
    rcases hy with (hy | hy) | ⟨x, hx, hy⟩ | hy
    · subst hy; exact .inr hobw
    · exact hR r (by rw [hrs]; simp) y hy
    · exact hR x (by rw [hrs]; simp [hx]) y hy
    · exact hst.r y (by simp only [CnD.R, List.mem_append, List.mem_flatMap]; exact .inr (.inr hy))
theorem FCl_tail (r : ClR) (l : List ClR) (z0 z1 z2 z3 : Value) : ((((FCl (r :: l)).set 0 z0).set 1 z1).set 2 z2).set 3 z3 = z0 :: z1 :: z2 :: z3 :: FCl l := by
  rw [FCl_cons]; rfl
/-- How taking ends. -/
def TakE (w : World) (B cb : Nat) (D : CnD) (r : ClR) (rs : List ClR) (e : Ending) (w' : World) : Prop :=
  ∃ KB kc A' c' ob, e = .returned (ClA r.o r.p KB r.ks.length kc r.s) ∧ OwnV w' w.heap.size KB r.ks.length kc (r.ks.map V8) ∧ CnM w' B cb (D.lin A' c' rs (some (ob, r))) ∧ Stp w w' cb D (D.lin A' c' rs (some (ob, r)))
abbrev tkW (w : World) (r : ClR) (m : Nat) : World := (zW w).alloc (.cells #[.int .u8 r.o, .int .i64 r.p, .slice r.A m r.c, .int .i64 r.s] 71)
def takA (rs : List ClR) (b off : Nat) : Option Addr := if rs = [] then none else some ⟨b, off + 4, none⟩
def takC (rs : List ClR) (c : Nat) : Nat := if rs = [] then 0 else c - 1
set_option maxHeartbeats 1600000 in
theorem cn_takec (w : World) (B cb : Nat) (D : CnD) (h : CnM w B cb D) (hB : B ≤ w.heap.size) (r : ClR) (rs : List ClR) (hrs : D.rows = r :: rs) (hl : r.ks.length ≤ 140737488355328) :
    Calls Try.prog 110 #[.pointer (some ⟨cb, 0, none⟩)] w (TakE w B cb D r rs) := by
  have hline := h.line
  rw [hrs] at hline
  obtain ⟨b, off, hLA, hb1, hb2, hc, hfz⟩ := hline.cell (by simp)
  have hrl : D.rows.length = rs.length + 1 := by rw [hrs]; rfl
  obtain ⟨m, hm⟩ : ∃ m, r.ks.length = m := ⟨_, rfl⟩
  have e0 : w.cell? ⟨b, off, none⟩ = some (.int .u8 r.o) := hc 0 _ rfl
  have e1 : w.cell? ⟨b, off + 1, none⟩ = some (.int .i64 r.p) := hc 1 _ rfl
  have e2 : w.cell? ⟨b, off + 2, none⟩ = some (.slice r.A m r.c) := by have := hc 2 (.slice r.A r.ks.length r.c) rfl; rw [hm] at this; exact this
  have e3 : w.cell? ⟨b, off + 3, none⟩ = some (.int .i64 r.s) := hc 3 _ rfl
  have c1 : w.cell? ⟨cb, 1, none⟩ = some (.slice (some ⟨b, off, none⟩) (rs.length + 1) D.lc) := by
    have := h.blk.cell 1 _ rfl
    rw [hLA, hrl] at this; exact this
  have lc := h.blk.lt
  have hcap := hline.cap
  have hle := hline.le
  unfold maxLen at hcap
  have hlen1 : rs.length + 1 ≤ D.lc := by simpa using hle
  have B2 : Below w.heap.size w ((w.alloc (.cells #[.int .u8 0, .int .i64 0, .slice none 0 0, .int .i64 0] 71)).alloc (.cells #[.int .u8 r.o, .int .i64 r.p, .slice r.A m r.c, .int .i64 r.s] 71)) := (clBl w 0 0 none 0 0 0).alloc (by simp) _
  have H2 : Hid (CnM ((w.alloc (.cells #[.int .u8 0, .int .i64 0, .slice none 0 0, .int .i64 0] 71)).alloc (.cells #[.int .u8 r.o, .int .i64 r.p, .slice r.A m r.c, .int .i64 r.s] 71)) B cb D) := Lib.hid (h.below B2)
  have S2 : Hid (Stp w ((w.alloc (.cells #[.int .u8 0, .int .i64 0, .slice none 0 0, .int .i64 0] 71)).alloc (.cells #[.int .u8 r.o, .int .i64 r.p, .slice r.A m r.c, .int .i64 r.s] 71)) cb D D) := Lib.hid (Stp.of_below (cb := cb) (D := D) B2)
  have k1 := BlkL.new (zW w) [.int .u8 r.o, .int .i64 r.p, .slice r.A m r.c, .int .i64 r.s] 71
  rw [show (zW w).heap.size = w.heap.size + 1 by simp] at k1
  have K0 : Hid (BlkL ((w.alloc (.cells #[.int .u8 0, .int .i64 0, .slice none 0 0, .int .i64 0] 71)).alloc (.cells #[.int .u8 r.o, .int .i64 r.p, .slice r.A m r.c, .int .i64 r.s] 71)) w.heap.size [.int .u8 0, .int .i64 0, .slice none 0 0, .int .i64 0]) := Lib.hid ((clK w 0 0 none 0 0 0).alloc (.cells #[.int .u8 r.o, .int .i64 r.p, .slice r.A m r.c, .int .i64 r.s] 71))
  have K1 : Hid (BlkL ((w.alloc (.cells #[.int .u8 0, .int .i64 0, .slice none 0 0, .int .i64 0] 71)).alloc (.cells #[.int .u8 r.o, .int .i64 r.p, .slice r.A m r.c, .int .i64 r.s] 71)) (w.heap.size + 1) [.int .u8 r.o, .int .i64 r.p, .slice r.A m r.c, .int .i64 r.s]) := Lib.hid k1
  have hMlt : ∀ y ∈ D.M cb, y < w.heap.size := fun y hy => (h.lt y hy).2
  have HMLT := Lib.hid hMlt
  have HRLT := Lib.hid (fun y hy => (h.ltR y hy).1)
  have z2 : ((w.alloc (.cells #[.int .u8 0, .int .i64 0, .slice none 0 0, .int .i64 0] 71)).alloc (.cells #[.int .u8 r.o, .int .i64 r.p, .slice r.A m r.c, .int .i64 r.s] 71)).heap.size = w.heap.size + 2 := by simp
  have HL2 : Hid (OwnS ((w.alloc (.cells #[.int .u8 0, .int .i64 0, .slice none 0 0, .int .i64 0] 71)).alloc (.cells #[.int .u8 r.o, .int .i64 r.p, .slice r.A m r.c, .int .i64 r.s] 71)) B 4 D.LA (r :: rs).length D.lc (FCl (r :: rs))) := Lib.hid (hline.below B2)
  have HRS := Lib.hid hrs
  have HLA := Lib.hid hLA
  have HM := Lib.hid hm
  clear h hline hc hfz B2 k1 hMlt hrs hm hle hrl hLA
  go_enter Try.func110, Try.ntmps110
  go_upto_region 2 with (fail)
  generalize ((w.alloc (.cells #[.int .u8 0, .int .i64 0, .slice none 0 0, .int .i64 0] 71)).alloc (.cells #[.int .u8 r.o, .int .i64 r.p, .slice r.A m r.c, .int .i64 r.s] 71)) = w2 at *
  have hl2 := HL2.out
  rw [HLA.out] at hl2
  obtain ⟨b', off', hbb, _, hb3, hc2, hfz2⟩ := hl2.cell (by simp)
  cases hbb
  have g1 : w2.cell? ⟨cb, 1, none⟩ = some (.slice (some ⟨b, off, none⟩) (rs.length + 1) D.lc) := by
    have := H2.out.blk.cell 1 _ rfl
    rw [HLA.out, HRS.out] at this; exact this
  have gf1 := H2.out.blk.froz 1 (by simp [CnD.cells])
  have gf3 := H2.out.blk.froz 3 (by simp [CnD.cells])
  have g3 := H2.out.blk.cell 3 _ rfl
  have gl := H2.out.blk.lt
  have d0 : w2.cell? ⟨b, off, none⟩ = some (.int .u8 r.o) := hc2 0 _ rfl
  have d1 : w2.cell? ⟨b, off + 1, none⟩ = some (.int .i64 r.p) := hc2 1 _ rfl
  have d2 : w2.cell? ⟨b, off + 2, none⟩ = some (.slice r.A m r.c) := by have := hc2 2 (.slice r.A r.ks.length r.c) rfl; rw [HM.out] at this; exact this
  have d3 : w2.cell? ⟨b, off + 3, none⟩ = some (.int .i64 r.s) := hc2 3 _ rfl
  have df0 : w2.frozen? ⟨b, off, none⟩ = false := hfz2 0 (by simp only [List.length_cons]; omega)
  have df1 : w2.frozen? ⟨b, off + 1, none⟩ = false := hfz2 1 (by simp only [List.length_cons]; omega)
  have df2 : w2.frozen? ⟨b, off + 2, none⟩ = false := hfz2 2 (by simp only [List.length_cons]; omega)
  have df3 : w2.frozen? ⟨b, off + 3, none⟩ = false := hfz2 3 (by simp only [List.length_cons]; omega)
  have hcbb : cb ≠ b := fun e => H2.out.dj.cL (by rw [HLA.out]; simp [bkV, e])
  have hbc : b ≠ cb := fun e => hcbb e.symm
  have hsl := fun w' => run_tailC w' b off rs.length D.lc
  have KO := Lib.hid hl2
  clear hl2 hc2 hfz2
  cases rs with
  | nil =>
    go_upto_region 7 with (fail)
    have fol : Off [b] w2 ((((w2.setCell ⟨b, off, none⟩ (.int .u8 0)).setCell ⟨b, off + 1, none⟩ (.int .i64 0)).setCell ⟨b, off + 2, none⟩ (.slice none 0 0)).setCell ⟨b, off + 3, none⟩ (.int .i64 0)) := ((((Off.refl _ _).setCell (p := ⟨b, off, none⟩) (by simp) _).setCell (p := ⟨b, off + 1, none⟩) (by simp) _).setCell (p := ⟨b, off + 2, none⟩) (by simp) _).setCell (p := ⟨b, off + 3, none⟩) (by simp) _
    have foc : Off [cb] ((((w2.setCell ⟨b, off, none⟩ (.int .u8 0)).setCell ⟨b, off + 1, none⟩ (.int .i64 0)).setCell ⟨b, off + 2, none⟩ (.slice none 0 0)).setCell ⟨b, off + 3, none⟩ (.int .i64 0)) (((((((w2.setCell ⟨b, off, none⟩ (.int .u8 0)).setCell ⟨b, off + 1, none⟩ (.int .i64 0)).setCell ⟨b, off + 2, none⟩ (.slice none 0 0)).setCell ⟨b, off + 3, none⟩ (.int .i64 0)).setCell ⟨cb, 1, none⟩ (.slice (if D.lc = 1 then some ⟨b, off, none⟩ else some ⟨b, off + 4, none⟩) 0 (D.lc - 1))).setCell ⟨cb, 1, none⟩ (.slice none 0 0)).setCell ⟨cb, 3, none⟩ (.pointer (some ⟨w.heap.size + 1, 0, none⟩))) := (((Off.refl [cb] ((((w2.setCell ⟨b, off, none⟩ (.int .u8 0)).setCell ⟨b, off + 1, none⟩ (.int .i64 0)).setCell ⟨b, off + 2, none⟩ (.slice none 0 0)).setCell ⟨b, off + 3, none⟩ (.int .i64 0))).setCell (p := ⟨cb, 1, none⟩) (by simp) (.slice (if D.lc = 1 then some ⟨b, off, none⟩ else some ⟨b, off + 4, none⟩) 0 (D.lc - 1))).setCell (p := ⟨cb, 1, none⟩) (by simp) (.slice none 0 0)).setCell (p := ⟨cb, 3, none⟩) (by simp) (.pointer (some ⟨w.heap.size + 1, 0, none⟩))
    have fo : Off (cb :: bkV D.LA) w2 (((((((w2.setCell ⟨b, off, none⟩ (.int .u8 0)).setCell ⟨b, off + 1, none⟩ (.int .i64 0)).setCell ⟨b, off + 2, none⟩ (.slice none 0 0)).setCell ⟨b, off + 3, none⟩ (.int .i64 0)).setCell ⟨cb, 1, none⟩ (.slice (if D.lc = 1 then some ⟨b, off, none⟩ else some ⟨b, off + 4, none⟩) 0 (D.lc - 1))).setCell ⟨cb, 1, none⟩ (.slice none 0 0)).setCell ⟨cb, 3, none⟩ (.pointer (some ⟨w.heap.size + 1, 0, none⟩))) := (fol.mono (fun y hy => by rw [HLA.out]; simp [bkV] at hy ⊢; exact .inr hy)).trans (foc.mono (fun y hy => by simp at hy; subst hy; simp))
    have hbk : BlkL ((((w2.setCell ⟨b, off, none⟩ (.int .u8 0)).setCell ⟨b, off + 1, none⟩ (.int .i64 0)).setCell ⟨b, off + 2, none⟩ (.slice none 0 0)).setCell ⟨b, off + 3, none⟩ (.int .i64 0)) cb D.cells := H2.out.blk.off fol (by simp; exact hcbb)
    have hbl : BlkL (((((((w2.setCell ⟨b, off, none⟩ (.int .u8 0)).setCell ⟨b, off + 1, none⟩ (.int .i64 0)).setCell ⟨b, off + 2, none⟩ (.slice none 0 0)).setCell ⟨b, off + 3, none⟩ (.int .i64 0)).setCell ⟨cb, 1, none⟩ (.slice (if D.lc = 1 then some ⟨b, off, none⟩ else some ⟨b, off + 4, none⟩) 0 (D.lc - 1))).setCell ⟨cb, 1, none⟩ (.slice none 0 0)).setCell ⟨cb, 3, none⟩ (.pointer (some ⟨w.heap.size + 1, 0, none⟩))) cb (CnD.cells (D.lin none 0 ([] : List ClR) (some (w.heap.size + 1, r)))) := (((hbk.set 1 (.slice (if D.lc = 1 then some ⟨b, off, none⟩ else some ⟨b, off + 4, none⟩) 0 (D.lc - 1)) (by simp [CnD.cells])).set 1 (.slice none 0 0) (by simp [CnD.cells])).set 3 (.pointer (some ⟨w.heap.size + 1, 0, none⟩)) (by simp [CnD.cells]))
    have hown : OwnS (((((((w2.setCell ⟨b, off, none⟩ (.int .u8 0)).setCell ⟨b, off + 1, none⟩ (.int .i64 0)).setCell ⟨b, off + 2, none⟩ (.slice none 0 0)).setCell ⟨b, off + 3, none⟩ (.int .i64 0)).setCell ⟨cb, 1, none⟩ (.slice (if D.lc = 1 then some ⟨b, off, none⟩ else some ⟨b, off + 4, none⟩) 0 (D.lc - 1))).setCell ⟨cb, 1, none⟩ (.slice none 0 0)).setCell ⟨cb, 3, none⟩ (.pointer (some ⟨w.heap.size + 1, 0, none⟩))) B 4 none ([] : List ClR).length 0 (FCl ([] : List ClR)) := OwnS.nil _ _ _
    have hk1 : BlkL w2 (w.heap.size + 1) r.cells := by
      have := K1.out
      rw [← HM.out] at this; exact this
    have hr := H2.out.chgT S2.out fo none 0 ([] : List ClR) (w.heap.size + 1) r HRS.out hk1 (by omega) (fun hh => by have := HMLT.out _ hh; omega) (by omega) hbl hown (fun y hy => by simp [bkV] at hy)
    have HH := Lib.hid hr
    have k0 : BlkL (((((((w2.setCell ⟨b, off, none⟩ (.int .u8 0)).setCell ⟨b, off + 1, none⟩ (.int .i64 0)).setCell ⟨b, off + 2, none⟩ (.slice none 0 0)).setCell ⟨b, off + 3, none⟩ (.int .i64 0)).setCell ⟨cb, 1, none⟩ (.slice (if D.lc = 1 then some ⟨b, off, none⟩ else some ⟨b, off + 4, none⟩) 0 (D.lc - 1))).setCell ⟨cb, 1, none⟩ (.slice none 0 0)).setCell ⟨cb, 3, none⟩ (.pointer (some ⟨w.heap.size + 1, 0, none⟩))) w.heap.size [.int .u8 0, .int .i64 0, .slice none 0 0, .int .i64 0] := K0.out.off fo (fun hh => by
      rcases List.mem_cons.1 hh with h | h
      · omega
      · rw [HLA.out] at h; simp [bkV] at h; omega)
    have k1 : BlkL (((((((w2.setCell ⟨b, off, none⟩ (.int .u8 0)).setCell ⟨b, off + 1, none⟩ (.int .i64 0)).setCell ⟨b, off + 2, none⟩ (.slice none 0 0)).setCell ⟨b, off + 3, none⟩ (.int .i64 0)).setCell ⟨cb, 1, none⟩ (.slice (if D.lc = 1 then some ⟨b, off, none⟩ else some ⟨b, off + 4, none⟩) 0 (D.lc - 1))).setCell ⟨cb, 1, none⟩ (.slice none 0 0)).setCell ⟨cb, 3, none⟩ (.pointer (some ⟨w.heap.size + 1, 0, none⟩))) (w.heap.size + 1) [.int .u8 r.o, .int .i64 r.p, .slice r.A m r.c, .int .i64 r.s] := K1.out.off fo (fun hh => by
      rcases List.mem_cons.1 hh with h | h
      · omega
      · rw [HLA.out] at h; simp [bkV] at h; omega)
    have hsz5 : (((((((w2.setCell ⟨b, off, none⟩ (.int .u8 0)).setCell ⟨b, off + 1, none⟩ (.int .i64 0)).setCell ⟨b, off + 2, none⟩ (.slice none 0 0)).setCell ⟨b, off + 3, none⟩ (.int .i64 0)).setCell ⟨cb, 1, none⟩ (.slice (if D.lc = 1 then some ⟨b, off, none⟩ else some ⟨b, off + 4, none⟩) 0 (D.lc - 1))).setCell ⟨cb, 1, none⟩ (.slice none 0 0)).setCell ⟨cb, 3, none⟩ (.pointer (some ⟨w.heap.size + 1, 0, none⟩))).heap.size = w.heap.size + 2 := by simpa [World.setCell] using z2
    clear hr hown hbl hbk fo foc fol
    generalize (((((((w2.setCell ⟨b, off, none⟩ (.int .u8 0)).setCell ⟨b, off + 1, none⟩ (.int .i64 0)).setCell ⟨b, off + 2, none⟩ (.slice none 0 0)).setCell ⟨b, off + 3, none⟩ (.int .i64 0)).setCell ⟨cb, 1, none⟩ (.slice (if D.lc = 1 then some ⟨b, off, none⟩ else some ⟨b, off + 4, none⟩) 0 (D.lc - 1))).setCell ⟨cb, 1, none⟩ (.slice none 0 0)).setCell ⟨cb, 3, none⟩ (.pointer (some ⟨w.heap.size + 1, 0, none⟩))) = w5 at *
    generalize (if D.lc = 1 then (some ⟨b, off, none⟩ : Option Addr) else some ⟨b, off + 4, none⟩) = TA
    have HSZ := Lib.hid hsz5
    have hge : w.heap.size + 2 ≤ w5.heap.size := by omega
    clear hsz5 z2
    have K05 := Lib.hid k0
    have K15 := Lib.hid k1
    have x0 := k1.cell 0 _ rfl
    have x1 := k1.cell 1 _ rfl
    have x2 := k1.cell 2 _ rfl
    have x3 := k1.cell 3 _ rfl
    have xl := k1.lt
    clear k0 k1 e0 e1 e2 e3 c1 g1 g3 gf1 gf3 gl d0 d1 d2 d3 df0 df1 df2 df3 hsl
    have hky := (HH.out.1.out _ rfl).2.2.2
    have hky2 : Arg w5 w5.heap.size r.A m r.c r.ks := by rw [← HM.out]; exact hky.arg
    have b6 := (Below.refl w5.heap.size w5).alloc (Nat.le_refl _) (.cells #[.int .u8 r.o, .int .i64 r.p, .slice r.A m r.c, .int .i64 r.s] 71)
    have HCL := Lib.hid (clone_all (w5.alloc (.cells #[.int .u8 r.o, .int .i64 r.p, .slice r.A m r.c, .int .i64 r.s] 71)) r.A m r.c r.ks ((hky2.below b6).more b6.size) (by rw [← HM.out]; omega))
    have k6 : BlkL (w5.alloc (.cells #[.int .u8 r.o, .int .i64 r.p, .slice r.A m r.c, .int .i64 r.s] 71)) w5.heap.size [.int .u8 r.o, .int .i64 r.p, .slice r.A m r.c, .int .i64 r.s] := BlkL.new w5 _ _
    have K6 := Lib.hid k6
    have HB6 := Lib.hid b6
    clear hky hky2 b6 k6
    go_wp2_with fail
    with_reducible refine (HCL.out).mono ?_
    rintro e w7 ⟨KB, kc, rfl, hokb, hb7⟩
    have HB7 := Lib.hid (HB6.out.trans (hb7.mono (by simp)))
    have H7 := Lib.hid (HH.out.1.below HB7.out)
    have S7 := Lib.hid (HH.out.2.trans (Stp.of_below HB7.out))
    have K7 := Lib.hid (K6.out.below hb7)
    have K07 := Lib.hid (K05.out.below HB7.out)
    have HOK : Hid (OwnV w7 (w5.heap.size + 1) KB m kc (r.ks.map V8)) := Lib.hid (by simpa using hokb)
    have y0 := K7.out.cell 0 _ rfl
    have y1 := K7.out.cell 1 _ rfl
    have y2 := K7.out.cell 2 _ rfl
    have y3 := K7.out.cell 3 _ rfl
    have yf2 := K7.out.froz 2 (by simp)
    have yl := K7.out.lt
    have r0 := K07.out.cell 0 _ rfl
    have r1 := K07.out.cell 1 _ rfl
    have r2' := K07.out.cell 2 _ rfl
    have r3 := K07.out.cell 3 _ rfl
    have rf0 := K07.out.froz 0 (by simp)
    have rf1 := K07.out.froz 1 (by simp)
    have rf2 := K07.out.froz 2 (by simp)
    have rf3 := K07.out.froz 3 (by simp)
    have rl := K07.out.lt
    have hne : w5.heap.size ≠ w.heap.size := by omega
    have hne2 : w.heap.size ≠ w5.heap.size := by omega
    clear hokb hb7 HCL x0 x1 x2 x3 xl
    go_wp2
    have f8 : Off [w5.heap.size, w.heap.size] w7 (put4w (w7.setCell ⟨w5.heap.size, 2, none⟩ (.slice KB m kc)) w.heap.size r.o r.p (.slice KB m kc) r.s) := (((((Off.refl _ _).setCell (p := ⟨w5.heap.size, 2, none⟩) (by simp) _).setCell (p := ⟨w.heap.size, 0, none⟩) (by simp) _).setCell (p := ⟨w.heap.size, 1, none⟩) (by simp) _).setCell (p := ⟨w.heap.size, 2, none⟩) (by simp) _).setCell (p := ⟨w.heap.size, 3, none⟩) (by simp) _
    have hMlt : ∀ y ∈ (D.lin none 0 ([] : List ClR) (some (w.heap.size + 1, r))).M cb, y < w.heap.size := fun y hy => by
      rcases HH.out.2.m y hy with h | h
      · exact HMLT.out y h
      · have := (HH.out.1.lt y hy).1
        have h5 := (HH.out.1.lt y hy).2
        simp only [CnD.M, List.mem_cons, List.mem_append] at hy
        refine HMLT.out y ?_
        simp only [CnD.M, List.mem_cons, List.mem_append]
        rcases hy with hy | hy | hy | hy
        · exact .inl hy
        · exact .inr (.inl hy)
        · exact .inr (.inr (.inl (by simp [bkV] at hy)))
        · exact .inr (.inr (.inr hy))
    have hR5 : ∀ y ∈ (D.lin none 0 ([] : List ClR) (some (w.heap.size + 1, r))).R, y ≠ w5.heap.size ∧ y ≠ w.heap.size := fun y hy => by
      have h5 := (HH.out.1.ltR y hy).1
      refine ⟨by omega, fun e => ?_⟩
      subst e
      simp only [CnD.R, List.mem_append, List.mem_flatMap, List.mem_cons] at hy
      have hro : ∀ x ∈ D.rows, w.heap.size ∉ bkV x.A := fun x hx hh => by have := HRLT.out w.heap.size (by simp only [CnD.R, List.mem_append, List.mem_flatMap]; exact .inr (.inl ⟨x, hx, hh⟩)); omega
      rcases hy with (hy | hy) | ⟨x, hx, hy⟩ | ⟨x, hx, hy⟩
      · omega
      · exact hro r (by rw [HRS.out]; simp) hy
      · exact absurd hx (by simp)
      · have := HRLT.out w.heap.size (by simp only [CnD.R, List.mem_append, List.mem_flatMap]; exact .inr (.inr ⟨x, hx, hy⟩)); omega
    have H8 := H7.out.off f8 (fun y hy hh => by have := hMlt y hy; simp at hh; omega) (fun y hy hh => by have := hR5 y hy; simp at hh; omega)
    have hst : Stp w (put4w (w7.setCell ⟨w5.heap.size, 2, none⟩ (.slice KB m kc)) w.heap.size r.o r.p (.slice KB m kc) r.s) cb D (D.lin none 0 ([] : List ClR) (some (w.heap.size + 1, r))) :=
      ⟨S7.out.off.new f8 (fun y hy => by simp at hy; exact .inr (by omega)), S7.out.m, S7.out.r⟩
    have hk8 := (K07.out.off (S := [w5.heap.size]) ((Off.refl _ _).setCell (p := ⟨w5.heap.size, 2, none⟩) (by simp) (.slice KB m kc)) (by simp; omega)).put4 (.int .u8 r.o) (.int .i64 r.p) (.slice KB m kc) (.int .i64 r.s)
    have ho8 := HOK.out.off f8 (fun y hy hh => by have := (HOK.out.lt y hy).1; simp at hh; omega)
    have z0 := hk8.cell 0 _ rfl
    have z1 := hk8.cell 1 _ rfl
    have z2' := hk8.cell 2 _ rfl
    have z3 := hk8.cell 3 _ rfl
    refine ⟨rfl, ClA r.o r.p KB m kc r.s, ?_, KB, kc, none, 0, w.heap.size + 1, by rw [HM.out], ?_, H8, hst⟩
    · simp [results, Try.results110, go_sem, z0, z1, z2', z3]
    · rw [HM.out]; exact ho8.mono (by omega)
  | cons r2 rs =>
    have hlc1 : ¬ D.lc = 1 := by simp at hlen1; omega
    go_upto_region 7 with (fail)
    have fol : Off [b] w2 ((((w2.setCell ⟨b, off, none⟩ (.int .u8 0)).setCell ⟨b, off + 1, none⟩ (.int .i64 0)).setCell ⟨b, off + 2, none⟩ (.slice none 0 0)).setCell ⟨b, off + 3, none⟩ (.int .i64 0)) := ((((Off.refl _ _).setCell (p := ⟨b, off, none⟩) (by simp) _).setCell (p := ⟨b, off + 1, none⟩) (by simp) _).setCell (p := ⟨b, off + 2, none⟩) (by simp) _).setCell (p := ⟨b, off + 3, none⟩) (by simp) _
    have foc : Off [cb] ((((w2.setCell ⟨b, off, none⟩ (.int .u8 0)).setCell ⟨b, off + 1, none⟩ (.int .i64 0)).setCell ⟨b, off + 2, none⟩ (.slice none 0 0)).setCell ⟨b, off + 3, none⟩ (.int .i64 0)) ((((((w2.setCell ⟨b, off, none⟩ (.int .u8 0)).setCell ⟨b, off + 1, none⟩ (.int .i64 0)).setCell ⟨b, off + 2, none⟩ (.slice none 0 0)).setCell ⟨b, off + 3, none⟩ (.int .i64 0)).setCell ⟨cb, 1, none⟩ (.slice (some ⟨b, off + 4, none⟩) (rs.length + 1) (D.lc - 1))).setCell ⟨cb, 3, none⟩ (.pointer (some ⟨w.heap.size + 1, 0, none⟩))) := ((Off.refl [cb] ((((w2.setCell ⟨b, off, none⟩ (.int .u8 0)).setCell ⟨b, off + 1, none⟩ (.int .i64 0)).setCell ⟨b, off + 2, none⟩ (.slice none 0 0)).setCell ⟨b, off + 3, none⟩ (.int .i64 0))).setCell (p := ⟨cb, 1, none⟩) (by simp) (.slice (some ⟨b, off + 4, none⟩) (rs.length + 1) (D.lc - 1))).setCell (p := ⟨cb, 3, none⟩) (by simp) (.pointer (some ⟨w.heap.size + 1, 0, none⟩))
    have fo : Off (cb :: bkV D.LA) w2 ((((((w2.setCell ⟨b, off, none⟩ (.int .u8 0)).setCell ⟨b, off + 1, none⟩ (.int .i64 0)).setCell ⟨b, off + 2, none⟩ (.slice none 0 0)).setCell ⟨b, off + 3, none⟩ (.int .i64 0)).setCell ⟨cb, 1, none⟩ (.slice (some ⟨b, off + 4, none⟩) (rs.length + 1) (D.lc - 1))).setCell ⟨cb, 3, none⟩ (.pointer (some ⟨w.heap.size + 1, 0, none⟩))) := (fol.mono (fun y hy => by rw [HLA.out]; simp [bkV] at hy ⊢; exact .inr hy)).trans (foc.mono (fun y hy => by simp at hy; subst hy; simp))
    have hbk : BlkL ((((w2.setCell ⟨b, off, none⟩ (.int .u8 0)).setCell ⟨b, off + 1, none⟩ (.int .i64 0)).setCell ⟨b, off + 2, none⟩ (.slice none 0 0)).setCell ⟨b, off + 3, none⟩ (.int .i64 0)) cb D.cells := H2.out.blk.off fol (by simp; exact hcbb)
    have hbl : BlkL ((((((w2.setCell ⟨b, off, none⟩ (.int .u8 0)).setCell ⟨b, off + 1, none⟩ (.int .i64 0)).setCell ⟨b, off + 2, none⟩ (.slice none 0 0)).setCell ⟨b, off + 3, none⟩ (.int .i64 0)).setCell ⟨cb, 1, none⟩ (.slice (some ⟨b, off + 4, none⟩) (rs.length + 1) (D.lc - 1))).setCell ⟨cb, 3, none⟩ (.pointer (some ⟨w.heap.size + 1, 0, none⟩))) cb (CnD.cells (D.lin (some ⟨b, off + 4, none⟩) (D.lc - 1) (r2 :: rs) (some (w.heap.size + 1, r)))) := ((hbk.set 1 (.slice (some ⟨b, off + 4, none⟩) (rs.length + 1) (D.lc - 1)) (by simp [CnD.cells])).set 3 (.pointer (some ⟨w.heap.size + 1, 0, none⟩)) (by simp [CnD.cells]))
    have hown : OwnS ((((((w2.setCell ⟨b, off, none⟩ (.int .u8 0)).setCell ⟨b, off + 1, none⟩ (.int .i64 0)).setCell ⟨b, off + 2, none⟩ (.slice none 0 0)).setCell ⟨b, off + 3, none⟩ (.int .i64 0)).setCell ⟨cb, 1, none⟩ (.slice (some ⟨b, off + 4, none⟩) (rs.length + 1) (D.lc - 1))).setCell ⟨cb, 3, none⟩ (.pointer (some ⟨w.heap.size + 1, 0, none⟩))) B 4 (some ⟨b, off + 4, none⟩) (r2 :: rs).length (D.lc - 1) (FCl (r2 :: rs)) := by
      have hs := (((KO.out.set 0 (.int .u8 0) (by simp only [List.length_cons]; omega)).set 1 (.int .i64 0) (by simp only [List.length_cons]; omega)).set 2 (.slice none 0 0) (by simp only [List.length_cons]; omega)).set 3 (.int .i64 0) (by simp only [List.length_cons]; omega)
      rw [FCl_tail] at hs
      have hs' : OwnS ((((w2.setCell ⟨b, off, none⟩ (.int .u8 0)).setCell ⟨b, off + 1, none⟩ (.int .i64 0)).setCell ⟨b, off + 2, none⟩ (.slice none 0 0)).setCell ⟨b, off + 3, none⟩ (.int .i64 0)) B 4 (some ⟨b, off, none⟩) (rs.length + 1 + 1) D.lc (.int .u8 0 :: .int .i64 0 :: .slice none 0 0 :: .int .i64 0 :: FCl (r2 :: rs)) := hs
      have ht : OwnS ((((w2.setCell ⟨b, off, none⟩ (.int .u8 0)).setCell ⟨b, off + 1, none⟩ (.int .i64 0)).setCell ⟨b, off + 2, none⟩ (.slice none 0 0)).setCell ⟨b, off + 3, none⟩ (.int .i64 0)) B 4 (some ⟨b, off + 4, none⟩) (rs.length + 1) (D.lc - 1) (FCl (r2 :: rs)) := by
        obtain ⟨c', hc'⟩ : ∃ c', D.lc = c' + 1 := ⟨D.lc - 1, by omega⟩
        have e : D.lc - 1 = c' := by omega
        rw [hc'] at hs'
        rw [e]
        exact hs'.tail
      exact ht.off foc (fun y hy hh => by simp [bkV] at hy hh; omega)
    have hk1 : BlkL w2 (w.heap.size + 1) r.cells := by
      have := K1.out
      rw [← HM.out] at this; exact this
    have hr := H2.out.chgT S2.out fo (some ⟨b, off + 4, none⟩) (D.lc - 1) (r2 :: rs) (w.heap.size + 1) r HRS.out hk1 (by omega) (fun hh => by have := HMLT.out _ hh; omega) (by omega) hbl hown (fun y hy => by rw [HLA.out]; simpa [bkV] using hy)
    have HH := Lib.hid hr
    have k0 : BlkL ((((((w2.setCell ⟨b, off, none⟩ (.int .u8 0)).setCell ⟨b, off + 1, none⟩ (.int .i64 0)).setCell ⟨b, off + 2, none⟩ (.slice none 0 0)).setCell ⟨b, off + 3, none⟩ (.int .i64 0)).setCell ⟨cb, 1, none⟩ (.slice (some ⟨b, off + 4, none⟩) (rs.length + 1) (D.lc - 1))).setCell ⟨cb, 3, none⟩ (.pointer (some ⟨w.heap.size + 1, 0, none⟩))) w.heap.size [.int .u8 0, .int .i64 0, .slice none 0 0, .int .i64 0] := K0.out.off fo (fun hh => by
      rcases List.mem_cons.1 hh with h | h
      · omega
      · rw [HLA.out] at h; simp [bkV] at h; omega)
    have k1 : BlkL ((((((w2.setCell ⟨b, off, none⟩ (.int .u8 0)).setCell ⟨b, off + 1, none⟩ (.int .i64 0)).setCell ⟨b, off + 2, none⟩ (.slice none 0 0)).setCell ⟨b, off + 3, none⟩ (.int .i64 0)).setCell ⟨cb, 1, none⟩ (.slice (some ⟨b, off + 4, none⟩) (rs.length + 1) (D.lc - 1))).setCell ⟨cb, 3, none⟩ (.pointer (some ⟨w.heap.size + 1, 0, none⟩))) (w.heap.size + 1) [.int .u8 r.o, .int .i64 r.p, .slice r.A m r.c, .int .i64 r.s] := K1.out.off fo (fun hh => by
      rcases List.mem_cons.1 hh with h | h
      · omega
      · rw [HLA.out] at h; simp [bkV] at h; omega)
    have hsz5 : ((((((w2.setCell ⟨b, off, none⟩ (.int .u8 0)).setCell ⟨b, off + 1, none⟩ (.int .i64 0)).setCell ⟨b, off + 2, none⟩ (.slice none 0 0)).setCell ⟨b, off + 3, none⟩ (.int .i64 0)).setCell ⟨cb, 1, none⟩ (.slice (some ⟨b, off + 4, none⟩) (rs.length + 1) (D.lc - 1))).setCell ⟨cb, 3, none⟩ (.pointer (some ⟨w.heap.size + 1, 0, none⟩))).heap.size = w.heap.size + 2 := by simpa [World.setCell] using z2
    clear hr hown hbl hbk fo foc fol
    generalize ((((((w2.setCell ⟨b, off, none⟩ (.int .u8 0)).setCell ⟨b, off + 1, none⟩ (.int .i64 0)).setCell ⟨b, off + 2, none⟩ (.slice none 0 0)).setCell ⟨b, off + 3, none⟩ (.int .i64 0)).setCell ⟨cb, 1, none⟩ (.slice (some ⟨b, off + 4, none⟩) (rs.length + 1) (D.lc - 1))).setCell ⟨cb, 3, none⟩ (.pointer (some ⟨w.heap.size + 1, 0, none⟩))) = w5 at *
    have HSZ := Lib.hid hsz5
    have hge : w.heap.size + 2 ≤ w5.heap.size := by omega
    clear hsz5 z2
    have K05 := Lib.hid k0
    have K15 := Lib.hid k1
    have x0 := k1.cell 0 _ rfl
    have x1 := k1.cell 1 _ rfl
    have x2 := k1.cell 2 _ rfl
    have x3 := k1.cell 3 _ rfl
    have xl := k1.lt
    clear k0 k1 e0 e1 e2 e3 c1 g1 g3 gf1 gf3 gl d0 d1 d2 d3 df0 df1 df2 df3 hsl
    have hky := (HH.out.1.out _ rfl).2.2.2
    have hky2 : Arg w5 w5.heap.size r.A m r.c r.ks := by rw [← HM.out]; exact hky.arg
    have b6 := (Below.refl w5.heap.size w5).alloc (Nat.le_refl _) (.cells #[.int .u8 r.o, .int .i64 r.p, .slice r.A m r.c, .int .i64 r.s] 71)
    have HCL := Lib.hid (clone_all (w5.alloc (.cells #[.int .u8 r.o, .int .i64 r.p, .slice r.A m r.c, .int .i64 r.s] 71)) r.A m r.c r.ks ((hky2.below b6).more b6.size) (by rw [← HM.out]; omega))
    have k6 : BlkL (w5.alloc (.cells #[.int .u8 r.o, .int .i64 r.p, .slice r.A m r.c, .int .i64 r.s] 71)) w5.heap.size [.int .u8 r.o, .int .i64 r.p, .slice r.A m r.c, .int .i64 r.s] := BlkL.new w5 _ _
    have K6 := Lib.hid k6
    have HB6 := Lib.hid b6
    clear hky hky2 b6 k6
    go_wp2_with fail
    with_reducible refine (HCL.out).mono ?_
    rintro e w7 ⟨KB, kc, rfl, hokb, hb7⟩
    have HB7 := Lib.hid (HB6.out.trans (hb7.mono (by simp)))
    have H7 := Lib.hid (HH.out.1.below HB7.out)
    have S7 := Lib.hid (HH.out.2.trans (Stp.of_below HB7.out))
    have K7 := Lib.hid (K6.out.below hb7)
    have K07 := Lib.hid (K05.out.below HB7.out)
    have HOK : Hid (OwnV w7 (w5.heap.size + 1) KB m kc (r.ks.map V8)) := Lib.hid (by simpa using hokb)
    have y0 := K7.out.cell 0 _ rfl
    have y1 := K7.out.cell 1 _ rfl
    have y2 := K7.out.cell 2 _ rfl
    have y3 := K7.out.cell 3 _ rfl
    have yf2 := K7.out.froz 2 (by simp)
    have yl := K7.out.lt
    have r0 := K07.out.cell 0 _ rfl
    have r1 := K07.out.cell 1 _ rfl
    have r2' := K07.out.cell 2 _ rfl
    have r3 := K07.out.cell 3 _ rfl
    have rf0 := K07.out.froz 0 (by simp)
    have rf1 := K07.out.froz 1 (by simp)
    have rf2 := K07.out.froz 2 (by simp)
    have rf3 := K07.out.froz 3 (by simp)
    have rl := K07.out.lt
    have hne : w5.heap.size ≠ w.heap.size := by omega
    have hne2 : w.heap.size ≠ w5.heap.size := by omega
    clear hokb hb7 HCL x0 x1 x2 x3 xl
    go_wp2
    have f8 : Off [w5.heap.size, w.heap.size] w7 (put4w (w7.setCell ⟨w5.heap.size, 2, none⟩ (.slice KB m kc)) w.heap.size r.o r.p (.slice KB m kc) r.s) := (((((Off.refl _ _).setCell (p := ⟨w5.heap.size, 2, none⟩) (by simp) _).setCell (p := ⟨w.heap.size, 0, none⟩) (by simp) _).setCell (p := ⟨w.heap.size, 1, none⟩) (by simp) _).setCell (p := ⟨w.heap.size, 2, none⟩) (by simp) _).setCell (p := ⟨w.heap.size, 3, none⟩) (by simp) _
    have hMlt : ∀ y ∈ (D.lin (some ⟨b, off + 4, none⟩) (D.lc - 1) (r2 :: rs) (some (w.heap.size + 1, r))).M cb, y < w.heap.size := fun y hy => by
      rcases HH.out.2.m y hy with h | h
      · exact HMLT.out y h
      · have := (HH.out.1.lt y hy).1
        have h5 := (HH.out.1.lt y hy).2
        simp only [CnD.M, List.mem_cons, List.mem_append] at hy
        refine HMLT.out y ?_
        simp only [CnD.M, List.mem_cons, List.mem_append]
        rcases hy with hy | hy | hy | hy
        · exact .inl hy
        · exact .inr (.inl hy)
        · exact .inr (.inr (.inl (by rw [HLA.out]; simpa [bkV] using hy)))
        · exact .inr (.inr (.inr hy))
    have hR5 : ∀ y ∈ (D.lin (some ⟨b, off + 4, none⟩) (D.lc - 1) (r2 :: rs) (some (w.heap.size + 1, r))).R, y ≠ w5.heap.size ∧ y ≠ w.heap.size := fun y hy => by
      have h5 := (HH.out.1.ltR y hy).1
      refine ⟨by omega, fun e => ?_⟩
      subst e
      simp only [CnD.R, List.mem_append, List.mem_flatMap, List.mem_cons] at hy
      have hro : ∀ x ∈ D.rows, w.heap.size ∉ bkV x.A := fun x hx hh => by have := HRLT.out w.heap.size (by simp only [CnD.R, List.mem_append, List.mem_flatMap]; exact .inr (.inl ⟨x, hx, hh⟩)); omega
      rcases hy with (hy | hy) | ⟨x, hx, hy⟩ | ⟨x, hx, hy⟩
      · omega
      · exact hro r (by rw [HRS.out]; simp) hy
      · exact hro x (by rw [HRS.out]; exact List.mem_cons_of_mem _ (List.mem_cons.2 hx)) hy
      · have := HRLT.out w.heap.size (by simp only [CnD.R, List.mem_append, List.mem_flatMap]; exact .inr (.inr ⟨x, hx, hy⟩)); omega
    have H8 := H7.out.off f8 (fun y hy hh => by have := hMlt y hy; simp at hh; omega) (fun y hy hh => by have := hR5 y hy; simp at hh; omega)
    have hst : Stp w (put4w (w7.setCell ⟨w5.heap.size, 2, none⟩ (.slice KB m kc)) w.heap.size r.o r.p (.slice KB m kc) r.s) cb D (D.lin (some ⟨b, off + 4, none⟩) (D.lc - 1) (r2 :: rs) (some (w.heap.size + 1, r))) :=
      ⟨S7.out.off.new f8 (fun y hy => by simp at hy; exact .inr (by omega)), S7.out.m, S7.out.r⟩
    have hk8 := (K07.out.off (S := [w5.heap.size]) ((Off.refl _ _).setCell (p := ⟨w5.heap.size, 2, none⟩) (by simp) (.slice KB m kc)) (by simp; omega)).put4 (.int .u8 r.o) (.int .i64 r.p) (.slice KB m kc) (.int .i64 r.s)
    have ho8 := HOK.out.off f8 (fun y hy hh => by have := (HOK.out.lt y hy).1; simp at hh; omega)
    have z0 := hk8.cell 0 _ rfl
    have z1 := hk8.cell 1 _ rfl
    have z2' := hk8.cell 2 _ rfl
    have z3 := hk8.cell 3 _ rfl
    refine ⟨rfl, ClA r.o r.p KB m kc r.s, ?_, KB, kc, (some ⟨b, off + 4, none⟩), (D.lc - 1), w.heap.size + 1, by rw [HM.out], ?_, H8, hst⟩
    · simp [results, Try.results110, go_sem, z0, z1, z2', z3]
    · rw [HM.out]; exact ho8.mono (by omega)
end Go.Proofs.Ytndgladfcogiiaa


/- Contracts: Next. -/
namespace Go.Proofs.Ytndgladfcogiiaa
open Go.RowKit
set_option maxRecDepth 100000
set_option linter.unusedVariables false

theorem nx_ret {w wf : World} {o p s f : Int} {A : Option Addr} {n c : Nat} {P : Ending → World → Prop} (tmps : Array Value) (hb : BlkL wf w.heap.size (clB o p A n c s)) (t2 : tmps[2]? = some (.pointer (some ⟨w.heap.size, 0, none⟩))) (t3 : tmps[3]? = some (.int .i64 f))
    (hp : P (.returned (.tuple #[ClA o p A n c s, .int .i64 f])) wf) : bodyPost Try.prog Try.f62 P Exit.ret { tmps := tmps, defers := [] } wf := by
  have c0 := hb.cell 0 _ rfl
  have c1 := hb.cell 1 _ rfl
  have c2 := hb.cell 2 _ rfl
  have c3 := hb.cell 3 _ rfl
  exact bodyPost_ret (v := .tuple #[ClA o p A n c s, .int .i64 f]) (by simp [results, Try.results62, go_sem, t2, t3, c0, c1, c2, c3]) rfl hp
theorem cn_next_nil (w : World) : Calls Try.prog 62 #[.pointer none] w fun e w' => e = .returned (.tuple #[ClA 0 0 none 0 0 0, .int .i64 7]) ∧ Below w.heap.size w w' := by
  go_enter Try.func62, Try.ntmps62
  go_wp2
  exact nx_ret _ (clK w 0 0 none 0 0 0) rfl rfl ⟨rfl, clBl w 0 0 none 0 0 0⟩
theorem cn_next_out (w : World) (B cb : Nat) (D : CnD) (h : CnM w B cb D) (q : Nat × ClR) (ho : D.ob = some q) : Calls Try.prog 62 #[.pointer (some ⟨cb, 0, none⟩)] w fun e w' => e = .returned (.tuple #[ClA 0 0 none 0 0 0, .int .i64 9]) ∧ Below w.heap.size w w' := by
  have HC := Lib.hid (h.below (clBl w 0 0 none 0 0 0))
  have HB0 := Lib.hid (clBl w 0 0 none 0 0 0)
  have c1 : (zW w).cell? ⟨cb, 1, none⟩ = some (.slice D.LA D.rows.length D.lc) := HC.out.blk.cell 1 _ rfl
  have c2 : (zW w).cell? ⟨cb, 2, none⟩ = some (.int .i64 D.fin) := HC.out.blk.cell 2 _ rfl
  have c4 : (zW w).cell? ⟨cb, 4, none⟩ = some (.bool D.cl) := HC.out.blk.cell 4 _ rfl
  have lc := HC.out.blk.lt
  have c3 : (zW w).cell? ⟨cb, 3, none⟩ = some (.pointer (some ⟨q.1, 0, none⟩)) := by
    have := HC.out.blk.cell 3 _ rfl
    rw [ho] at this; exact this
  clear h
  go_enter Try.func62, Try.ntmps62
  go_wp2
  exact nx_ret _ (clK w 0 0 none 0 0 0) rfl rfl ⟨rfl, HB0.out⟩
theorem cn_next_closed (w : World) (B cb : Nat) (D : CnD) (h : CnM w B cb D) (ho : D.ob = none) (hcl : D.cl = true) : Calls Try.prog 62 #[.pointer (some ⟨cb, 0, none⟩)] w fun e w' => e = .returned (.tuple #[ClA 0 0 none 0 0 0, .int .i64 13]) ∧ Below w.heap.size w w' := by
  have HC := Lib.hid (h.below (clBl w 0 0 none 0 0 0))
  have HB0 := Lib.hid (clBl w 0 0 none 0 0 0)
  have c1 : (zW w).cell? ⟨cb, 1, none⟩ = some (.slice D.LA D.rows.length D.lc) := HC.out.blk.cell 1 _ rfl
  have c2 : (zW w).cell? ⟨cb, 2, none⟩ = some (.int .i64 D.fin) := HC.out.blk.cell 2 _ rfl
  have c4 : (zW w).cell? ⟨cb, 4, none⟩ = some (.bool D.cl) := HC.out.blk.cell 4 _ rfl
  have lc := HC.out.blk.lt
  have c3 : (zW w).cell? ⟨cb, 3, none⟩ = some (.pointer none) := by
    have := HC.out.blk.cell 3 _ rfl
    rw [ho] at this; exact this
  rw [hcl] at c4
  clear h
  go_enter Try.func62, Try.ntmps62
  go_wp2
  exact nx_ret _ (clK w 0 0 none 0 0 0) rfl rfl ⟨rfl, HB0.out⟩
theorem cn_next_none (w : World) (B cb : Nat) (D : CnD) (h : CnM w B cb D) (ho : D.ob = none) (hcl : D.cl = false) (hr : D.rows = []) (hf : D.fin = 0) : Calls Try.prog 62 #[.pointer (some ⟨cb, 0, none⟩)] w fun e w' => e = .returned (.tuple #[ClA 0 0 none 0 0 0, .int .i64 7]) ∧ Below w.heap.size w w' := by
  have HC := Lib.hid (h.below (clBl w 0 0 none 0 0 0))
  have HB0 := Lib.hid (clBl w 0 0 none 0 0 0)
  have c1 : (zW w).cell? ⟨cb, 1, none⟩ = some (.slice D.LA D.rows.length D.lc) := HC.out.blk.cell 1 _ rfl
  have c2 : (zW w).cell? ⟨cb, 2, none⟩ = some (.int .i64 D.fin) := HC.out.blk.cell 2 _ rfl
  have c4 : (zW w).cell? ⟨cb, 4, none⟩ = some (.bool D.cl) := HC.out.blk.cell 4 _ rfl
  have lc := HC.out.blk.lt
  have c3 : (zW w).cell? ⟨cb, 3, none⟩ = some (.pointer none) := by
    have := HC.out.blk.cell 3 _ rfl
    rw [ho] at this; exact this
  rw [hcl] at c4
  have hl0 : D.rows.length = 0 := by rw [hr]; rfl
  rw [hl0] at c1
  rw [hf] at c2
  clear hl0
  clear h
  go_enter Try.func62, Try.ntmps62
  go_wp2
  exact nx_ret _ (clK w 0 0 none 0 0 0) rfl rfl ⟨rfl, HB0.out⟩
set_option maxHeartbeats 800000 in
theorem cn_next_line (w : World) (B cb : Nat) (D : CnD) (h : CnM w B cb D) (hB : B ≤ w.heap.size) (ho : D.ob = none) (hcl : D.cl = false) (r : ClR) (rs : List ClR) (hrs : D.rows = r :: rs) (hl : r.ks.length ≤ 140737488355328) : Calls Try.prog 62 #[.pointer (some ⟨cb, 0, none⟩)] w fun e w' =>
    ∃ KB kc A' c' ob, e = .returned (.tuple #[ClA r.o r.p KB r.ks.length kc r.s, .int .i64 0]) ∧ OwnV w' w.heap.size KB r.ks.length kc (r.ks.map V8) ∧ CnM w' B cb (D.lin A' c' rs (some (ob, r))) ∧ Stp w w' cb D (D.lin A' c' rs (some (ob, r))) := by
  have HC := Lib.hid (h.below (clBl w 0 0 none 0 0 0))
  have HB0 := Lib.hid (clBl w 0 0 none 0 0 0)
  have c1 : (zW w).cell? ⟨cb, 1, none⟩ = some (.slice D.LA D.rows.length D.lc) := HC.out.blk.cell 1 _ rfl
  have c2 : (zW w).cell? ⟨cb, 2, none⟩ = some (.int .i64 D.fin) := HC.out.blk.cell 2 _ rfl
  have c4 : (zW w).cell? ⟨cb, 4, none⟩ = some (.bool D.cl) := HC.out.blk.cell 4 _ rfl
  have lc := HC.out.blk.lt
  have c3 : (zW w).cell? ⟨cb, 3, none⟩ = some (.pointer none) := by
    have := HC.out.blk.cell 3 _ rfl
    rw [ho] at this; exact this
  rw [hcl] at c4
  have hpos : decide ((0 : Int) < (D.rows.length : Int)) = true := decide_eq_true (by rw [hrs]; simp)
  have HT := Lib.hid (cn_takec (zW w) B cb D HC.out (by simp; omega) r rs hrs hl)
  have HS := Lib.hid (Stp.of_below (cb := cb) (D := D) HB0.out)
  have K0 := Lib.hid (clK w 0 0 none 0 0 0)
  have HMLT := Lib.hid (fun y hy => (h.lt y hy).2)
  have HRLT := Lib.hid (fun y hy => (h.ltR y hy).1)
  clear h
  go_enter Try.func62, Try.ntmps62
  go_wp2_with fail
  with_reducible refine (HT.out).mono ?_
  rintro e w1 ⟨KB, kc, A', c', ob, rfl, hok, h1, s1⟩
  have HOK : Hid (OwnV w1 (w.heap.size + 1) KB r.ks.length kc (r.ks.map V8)) := Lib.hid (by simpa using hok)
  have H1 := Lib.hid h1
  have S1 := Lib.hid (HS.out.trans s1)
  have hwM : w.heap.size ∉ D.M cb := fun hh => by have := HMLT.out _ hh; omega
  have hwR : w.heap.size ∉ D.R := fun hh => by have := HRLT.out _ hh; omega
  have hnM : w.heap.size ∉ (D.lin A' c' rs (some (ob, r))).M cb := fun hh => (s1.m _ hh).elim hwM (fun h => by simp at h; omega)
  have hnR : w.heap.size ∉ (D.lin A' c' rs (some (ob, r))).R := fun hh => (s1.r _ hh).elim hwR (fun h => by simp at h; omega)
  have hk1 := K0.out.off s1.off hwM
  have K1 := Lib.hid hk1
  have r0 := hk1.cell 0 _ rfl
  have r1 := hk1.cell 1 _ rfl
  have r2 := hk1.cell 2 _ rfl
  have r3 := hk1.cell 3 _ rfl
  have rf0 := hk1.froz 0 (by simp)
  have rf1 := hk1.froz 1 (by simp)
  have rf2 := hk1.froz 2 (by simp)
  have rf3 := hk1.froz 3 (by simp)
  have rl := hk1.lt
  have HNM := Lib.hid (And.intro hnM hnR)
  clear hok h1 s1 hk1 hwM hwR hnM hnR HT c1 c2 c3 c4 lc
  obtain ⟨m, hm⟩ : ∃ m, r.ks.length = m := ⟨_, rfl⟩
  have HM := Lib.hid hm
  rw [hm] at HOK
  rw [hm]
  clear hm
  go_wp2
  have f8 : Off [w.heap.size] w1 (put4w w1 w.heap.size r.o r.p (.slice KB m kc) r.s) := ((((Off.refl _ _).setCell (p := ⟨w.heap.size, 0, none⟩) (by simp) _).setCell (p := ⟨w.heap.size, 1, none⟩) (by simp) _).setCell (p := ⟨w.heap.size, 2, none⟩) (by simp) _).setCell (p := ⟨w.heap.size, 3, none⟩) (by simp) _
  have hk2 := K1.out.put4 (.int .u8 r.o) (.int .i64 r.p) (.slice KB m kc) (.int .i64 r.s)
  have H8 := H1.out.off f8 (fun y hy hh => by simp at hh; subst hh; exact HNM.out.1 hy) (fun y hy hh => by simp at hh; subst hh; exact HNM.out.2 hy)
  have ho8 := HOK.out.off f8 (fun y hy hh => by have := (HOK.out.lt y hy).1; simp at hh; omega)
  refine nx_ret _ hk2 rfl rfl ⟨KB, kc, A', c', ob, by rw [HM.out], by rw [HM.out]; exact ho8.mono (B' := w.heap.size) (by omega), H8, ⟨S1.out.off.new f8 (fun y hy => by simp at hy; exact .inr (by omega)), S1.out.m, S1.out.r⟩⟩
end Go.Proofs.Ytndgladfcogiiaa


/- Contracts: Feed. -/
namespace Go.Proofs.Ytndgladfcogiiaa
open Go.RowKit
set_option maxRecDepth 100000
set_option linter.unusedVariables false

theorem call_info : (Try.prog.info? 71).map (fun i => (i.zero, i.size, i.bytes)) = some (some (.agg #[.int .u8 0, .int .i64 0, .slice none 0 0, .int .i64 0]), 4, 48) := by kernel_rfl
theorem info_partsC : ∃ i0, Try.prog.info? 71 = some i0 ∧ i0.zero = some (.agg #[.int .u8 0, .int .i64 0, .slice none 0 0, .int .i64 0]) ∧ i0.size = 4 ∧ i0.bytes = 48 := by
  have h := call_info
  cases hh : Try.prog.info? 71 with
  | none => rw [hh] at h; cases h
  | some i0 =>
    rw [hh] at h
    simp only [Option.map_some, Option.some.injEq, Prod.mk.injEq] at h
    exact ⟨i0, rfl, h.1, h.2.1, h.2.2⟩
/-- The requests among payloads, up to the first that is none. -/
def gath : List (List Nat) → List ClV × Bool
  | [] => ([], false)
  | p :: ps => if (rqV p).2 = 0 then ((rqV p).1 :: (gath ps).1, (gath ps).2) else ([], true)
theorem gath_good (ps : List (List Nat)) (h : ∀ p ∈ ps, (rqV p).2 = 0) : gath ps = (ps.map fun p => (rqV p).1, false) := by
  induction ps with
  | nil => rfl
  | cons p ps ih =>
    unfold gath
    rw [if_pos (h p (by simp)), ih (fun q hq => h q (by simp [hq]))]
    rfl
theorem gath_bad (ps : List (List Nat)) (i : Nat) (hi : i < ps.length) (h : ∀ p ∈ ps.take i, (rqV p).2 = 0) (hb : (rqV (ps.getD i [])).2 ≠ 0) : gath ps = ((ps.take i).map fun p => (rqV p).1, true) := by
  induction ps generalizing i with
  | nil => simp at hi
  | cons p ps ih =>
    cases i with
    | zero =>
      unfold gath
      rw [if_neg (by simpa using hb)]
      rfl
    | succ i =>
      unfold gath
      rw [if_pos (h p (by simp)), ih i (by simpa using hi) (fun q hq => h q (by simp [hq])) (by simpa using hb)]
      rfl
/-- What comes of bytes: the requests, and the end's error. -/
def fdV (ws zs : List Nat) : List ClV × Int :=
  ((gath (Fr.frV (ws ++ zs)).1).1, if (gath (Fr.frV (ws ++ zs)).1).2 then 3 else if (Fr.frV (ws ++ zs)).2.2 then 12 else 0)
abbrev CnD.rdr (D : CnD) (A : Option Addr) (n c : Nat) (ws : List Nat) (rc : Bool) : CnD := { D with WA := A, wn := n, wc := c, ws := ws, rc := rc }
abbrev CnD.lns (D : CnD) (A : Option Addr) (c : Nat) (l : List ClR) : CnD := { D with LA := A, lc := c, rows := l }
/-- How Feed ends. -/
def FdE (w : World) (B cb : Nat) (D : CnD) (zs : List Nat) (e : Ending) (w' : World) : Prop :=
  ∃ rb' A' n' c' ws' rc' LA' lc' rows' f, e = .returned (.int .i64 0) ∧ CnM w' B cb { (D.rdr A' n' c' ws' rc').lns LA' lc' rows' with rb := rb', fin := f } ∧ Stp w w' cb D { (D.rdr A' n' c' ws' rc').lns LA' lc' rows' with rb := rb', fin := f } ∧
    rows'.map ClR.v = D.rows.map ClR.v ++ (fdV D.ws zs).1 ∧ f = (fdV D.ws zs).2 ∧ (f = 0 → rb' = D.rb ∧ ws' = (Fr.frV (D.ws ++ zs)).2.1 ∧ rc' = false) ∧ (f ≠ 0 → rb' = none)
theorem rrx (w : World) (A : Option Addr) (n c : Nat) (zs : List Nat) (h : Arg w w.heap.size A n c zs) (x : ClV) (f : Int) (hv : rqV zs = (x, f)) (m : Nat) (hm : x.ks.length = m) : Calls Try.prog 46 #[.slice A n c] w fun e w' =>
    ∃ KA kc, e = .returned (.tuple #[ClA x.o x.p KA m kc x.s, .int .i64 f]) ∧ OwnV w' w.heap.size KA m kc (x.ks.map V8) ∧ Below w.heap.size w w' := by
  subst hm
  have := readRequest_any w A n c zs h
  rw [hv] at this
  exact this
theorem rqV_byteL {zs : List Nat} (hb : ∀ d ∈ zs, d < 256) : ∀ d ∈ (rqV zs).1.ks, d < 256 := by
  by_cases hl : 4096 < zs.length
  · unfold rqV; rw [if_pos hl]; intro d hd; simp [ClV.zero] at hd
  cases ht : toldV zs with
  | none => unfold rqV; rw [if_neg hl, ht]; intro d hd; simp [ClV.zero] at hd
  | some y =>
    unfold rqV
    rw [if_neg hl, ht]
    intro d hd
    dsimp only at hd
    split at hd
    · exact toldV_byte hb ht d hd
    · simp [ClV.zero] at hd
theorem feed_x (w : World) (B rb : Nat) (A : Option Addr) (n c : Nat) (xs : List Nat) (S : Option Addr) (m d : Nat) (zs : List Nat) (h : RdM w B rb A n c xs false) (ha : Arg w w.heap.size S m d zs) (hB : B ≤ w.heap.size)
    (hnm : n + m ≤ 211106232532992) (fr : List (List Nat) × List Nat × Bool) (hfr : Fr.frV (xs ++ zs) = fr) (hk : fr.1.length * 24 ≤ 140737488355328) (b : Bool) (hb : fr.2.2 = b) (fe : Int) (hfe : fe = if b then 12 else 0) :
    Calls Try.prog 38 #[.pointer (some ⟨rb, 0, none⟩), .slice S m d] w fun e w' => ∃ PA k kc rs A' n' c' ws', e = .returned (.tuple #[.slice PA k kc, .int .i64 fe]) ∧ rs.map (·.p) = fr.1 ∧ PayL w' w.heap.size PA k kc rs ∧
      RdM w' B rb A' n' c' ws' b ∧ (b = false → ws' = fr.2.1) ∧ Off (rb :: bkV A) w w' ∧ (∀ y ∈ bkV A', y ∈ bkV A ∨ w.heap.size ≤ y) ∧ ∀ y ∈ bkV A', y ∉ blkP PA rs := by
  subst hfr
  subst hb
  subst hfe
  refine (feed_open w B rb A n c xs S m d zs h ha hB hnm hk).mono ?_
  rintro e w' ⟨PA, k, kc, rs, A', n', c', h1, h2, h3, h4, h5, h6, h7⟩
  exact ⟨PA, k, kc, rs, A', n', c', _, h1, h2, h3, h4, fun hb => by rw [hb]; rfl, h5, h6, h7⟩
/-- The loop over the payloads. -/
def FdI (w : World) (B cb : Nat) (D D1 : CnD) (PA : Option Addr) (k kc : Nat) (rs : List Row) (iv : Value) (wr : World) : Prop :=
  ∃ (i : Nat) (LA' : Option Addr) (lc' : Nat) (rows' : List ClR), i ≤ k ∧ iv = .int .i64 (i : Int) ∧ CnM wr B cb (D1.lns LA' lc' rows') ∧ Stp w wr cb D (D1.lns LA' lc' rows') ∧ rows'.map ClR.v = D.rows.map ClR.v ++ (((rs.map (·.p)).take i).map fun p => (rqV p).1) ∧ rows'.length = D.rows.length + i ∧
    (∀ p ∈ (rs.map (·.p)).take i, (rqV p).2 = 0) ∧ PayL wr w.heap.size PA k kc rs ∧ ∀ y ∈ blkP PA rs, y ∉ (D1.lns LA' lc' rows').M cb
theorem fd_mid {w wr w4 w5 : World} {B cb : Nat} {D D1 : CnD} {LA LA2 PA KA : Option Addr} {lc lc2 k kc kc3 : Nat} {rows : List ClR} {rs : List Row} {x : ClV} (hc : CnM wr B cb (D1.lns LA lc rows)) (hs : Stp w wr cb D (D1.lns LA lc rows)) (hp : PayL wr w.heap.size PA k kc rs) (hdj : ∀ y ∈ blkP PA rs, y ∉ (D1.lns LA lc rows).M cb) (b4 : Below wr.heap.size wr w4)
    (hok : OwnV w4 wr.heap.size KA x.ks.length kc3 (x.ks.map V8)) (hbx : ∀ d ∈ x.ks, d < 256) (hown : OwnS w5 B 4 LA2 (rows.length + 1) lc2 (FCl rows ++ FCl [⟨x.o, x.p, x.s, KA, kc3, x.ks⟩])) (hf : Off (bkV LA) w4 w5) (hbk : ∀ y ∈ bkV LA2, y ∈ bkV LA ∨ w4.heap.size ≤ y) :
    CnM (w5.setCell ⟨cb, 1, none⟩ (.slice LA2 (rows.length + 1) lc2)) B cb (D1.lns LA2 lc2 (rows ++ [⟨x.o, x.p, x.s, KA, kc3, x.ks⟩])) ∧ Stp w (w5.setCell ⟨cb, 1, none⟩ (.slice LA2 (rows.length + 1) lc2)) cb D (D1.lns LA2 lc2 (rows ++ [⟨x.o, x.p, x.s, KA, kc3, x.ks⟩])) ∧
      PayL (w5.setCell ⟨cb, 1, none⟩ (.slice LA2 (rows.length + 1) lc2)) w.heap.size PA k kc rs ∧ ∀ y ∈ blkP PA rs, y ∉ (D1.lns LA2 lc2 (rows ++ [⟨x.o, x.p, x.s, KA, kc3, x.ks⟩])).M cb := by
  have h4 := hc.below b4
  have s4 := hs.trans (Stp.of_below b4)
  have dj := h4.dj
  have hsz := b4.size
  have hcA : cb ∉ bkV LA2 := fun hh => by
    rcases hbk cb hh with h | h
    · exact dj.cL h
    · have := h4.blk.lt; omega
  have fo : Off [cb] w5 (w5.setCell ⟨cb, 1, none⟩ (.slice LA2 (rows.length + 1) lc2)) := (Off.refl _ _).setCell (p := ⟨cb, 1, none⟩) (by simp) _
  have fo2 : Off (cb :: bkV LA) w4 (w5.setCell ⟨cb, 1, none⟩ (.slice LA2 (rows.length + 1) lc2)) := (hf.mono (fun y hy => List.mem_cons_of_mem _ hy)).trans (fo.mono (fun y hy => by simp at hy; subst hy; simp))
  have hlen : (rows ++ [(⟨x.o, x.p, x.s, KA, kc3, x.ks⟩ : ClR)]).length = rows.length + 1 := by simp
  have hb : BlkL (w5.setCell ⟨cb, 1, none⟩ (.slice LA2 (rows.length + 1) lc2)) cb (CnD.cells (D1.lns LA2 lc2 (rows ++ [⟨x.o, x.p, x.s, KA, kc3, x.ks⟩]))) := by
    have := (h4.blk.off hf dj.cL).set 1 (.slice LA2 (rows.length + 1) lc2) (by simp [CnD.cells])
    have e : CnD.cells (D1.lns LA2 lc2 (rows ++ [⟨x.o, x.p, x.s, KA, kc3, x.ks⟩])) = (CnD.cells (D1.lns LA lc rows)).set 1 (.slice LA2 (rows.length + 1) lc2) := by simp [CnD.cells, hlen]
    rw [e]; exact this
  have hM4 : ∀ y ∈ (D1.lns LA lc rows).M cb, y < wr.heap.size := fun y hy => (hc.lt y hy).2
  have hkn : KeyOk w4 ((D1.lns LA lc rows).M cb) KA kc3 x.ks := ⟨hok.arg' hbx, fun y hy => (hok.lt y hy).2, fun y hy hh => by have := hM4 y hh; have := (hok.lt y hy).1; omega⟩
  have hr := h4.chgL s4 LA2 lc2 (rows ++ [⟨x.o, x.p, x.s, KA, kc3, x.ks⟩]) fo2 hb (by rw [hlen, FCl_append]; exact hown.off fo (fun y hy hh => by simp at hh; subst hh; exact hcA hy))
    (fun t ht => by
      rcases List.mem_append.1 ht with h | h
      · exact h4.kl t h
      · simp at h; subst h; exact hkn)
    (fun t ht y hy => by
      rcases List.mem_append.1 ht with h | h
      · exact s4.r y (by simp only [CnD.R, List.mem_append, List.mem_flatMap]; exact .inr (.inl ⟨t, h, hy⟩))
      · simp at h; subst h; have := (hok.lt y hy).1; have := hs.off.size; exact .inr (by omega))
    hbk
  have hplt := hp.lt
  refine ⟨hr.1, hr.2, ?_, fun y hy hh => ?_⟩
  · refine ((hp.below b4)).off fo2 (fun y hy hh => hdj y hy ?_)
    rcases List.mem_cons.1 hh with rfl | hh
    · simp [CnD.M]
    · simp [CnD.M, hh]
  · have h5 := hdj y hy
    have h6 := (hplt y hy).2
    simp only [CnD.M, List.mem_cons, List.mem_append, not_or] at hh h5
    rcases hh with hh | hh | hh | hh
    · exact h5.1 hh
    · exact h5.2.1 hh
    · rcases hbk y hh with h | h
      · exact h5.2.2.1 h
      · omega
    · exact hh.elim h5.2.2.2.1 h5.2.2.2.2
theorem cn_feed_nil (w : World) (v : Value) : Calls Try.prog 61 #[.pointer none, v] w fun e w' => e = .returned (.int .i64 7) ∧ w = w' := by
  go_enter Try.func61, Try.ntmps61
  go_wp2
  go_ret
  exact ⟨rfl, rfl⟩
theorem cn_feed_shut (w : World) (B cb : Nat) (D : CnD) (h : CnM w B cb D) (v : Value) (hs : D.cl = true ∨ D.fin ≠ 0) : Calls Try.prog 61 #[.pointer (some ⟨cb, 0, none⟩), v] w fun e w' => e = .returned (.int .i64 13) ∧ w = w' := by
  have c2 : w.cell? ⟨cb, 2, none⟩ = some (.int .i64 D.fin) := h.blk.cell 2 _ rfl
  have c4 : w.cell? ⟨cb, 4, none⟩ = some (.bool D.cl) := h.blk.cell 4 _ rfl
  have lc := h.blk.lt
  clear h
  cases hcl : D.cl with
  | true =>
    rw [hcl] at c4
    go_enter Try.func61, Try.ntmps61
    go_wp2
    go_ret
    exact ⟨rfl, rfl⟩
  | false =>
    rw [hcl] at c4
    have hf : (D.fin != 0) = true := by
      rcases hs with h | h
      · rw [hcl] at h; cases h
      · simpa using h
    clear hs
    go_enter Try.func61, Try.ntmps61
    go_wp2
    go_ret
    exact ⟨rfl, rfl⟩
set_option maxHeartbeats 3200000 in
theorem cn_feed (w : World) (B cb : Nat) (D : CnD) (h : CnM w B cb D) (hB : B ≤ w.heap.size) (rb : Nat) (hrb : D.rb = some rb) (hrc : D.rc = false) (hcl : D.cl = false) (hfin : D.fin = 0) (S : Option Addr) (m d : Nat) (zs : List Nat) (ha : Arg w w.heap.size S m d zs)
    (hnm : D.wn + m ≤ 211106232532992) (hk : D.rows.length + (Fr.frV (D.ws ++ zs)).1.length ≤ 1000000) :
    Calls Try.prog 61 #[.pointer (some ⟨cb, 0, none⟩), .slice S m d] w (FdE w B cb D zs) := by
  obtain ⟨i0, hi, hz0, hz1, hz2⟩ := info_partsC
  have c0 : w.cell? ⟨cb, 0, none⟩ = some (.pointer (some ⟨rb, 0, none⟩)) := by
    have := h.blk.cell 0 _ rfl
    rw [hrb] at this; exact this
  have c2 : w.cell? ⟨cb, 2, none⟩ = some (.int .i64 0) := by
    have := h.blk.cell 2 _ rfl
    rw [hfin] at this; exact this
  have c4 : w.cell? ⟨cb, 4, none⟩ = some (.bool false) := by
    have := h.blk.cell 4 _ rfl
    rw [hcl] at this; exact this
  have lc := h.blk.lt
  obtain ⟨hrd, hrB⟩ := h.rd rb hrb
  rw [hrc] at hrd
  obtain ⟨fr, hfr⟩ : ∃ fr, Fr.frV (D.ws ++ zs) = fr := ⟨_, rfl⟩
  obtain ⟨b, hb⟩ : ∃ b, fr.2.2 = b := ⟨_, rfl⟩
  obtain ⟨fe, hfe⟩ : ∃ fe : Int, fe = if b then 12 else 0 := ⟨_, rfl⟩
  have hfd : fdV D.ws zs = ((gath fr.1).1, if (gath fr.1).2 then 3 else fe) := by unfold fdV; rw [hfr, hb, ← hfe]
  rw [hfr] at hk
  have HFE := Lib.hid (feed_x w B rb D.WA D.wn D.wc D.ws S m d zs hrd ha hB hnm fr hfr (by omega) b hb fe hfe)
  have HC := Lib.hid h
  have HMLT := Lib.hid (fun y hy => (h.lt y hy).2)
  have HK := Lib.hid hk
  have HFD := Lib.hid hfd
  have HFR := Lib.hid hfr
  have HFEE := Lib.hid hfe
  have HRB := Lib.hid hrb
  have HFIN := Lib.hid hfin
  clear h hrd ha hnm hk hfd hfr hfe hb hrb hfin hrc hcl
  go_enter Try.func61, Try.ntmps61
  go_wp2_with fail
  with_reducible refine (HFE.out).mono ?_
  rintro e w1 ⟨PA, k, kc, rs, A', n', c', ws', rfl, hrs, hpay, hrd1, hws, hoff, hA', hdis⟩
  obtain ⟨h1, s1⟩ := HC.out.chgW (Stp.refl w cb D) rb HRB.out A' n' c' ws' b hoff hrd1 hA'
  have HST : Hid (FdI w B cb D (D.rdr A' n' c' ws' b) PA k kc rs (.int .i64 0) w1) := Lib.hid ⟨0, D.LA, D.lc, D.rows, Nat.zero_le _, rfl, h1, s1, by simp, by simp, by simp, hpay, fun y hy hh => by
    have hge := (hpay.lt y hy).1
    simp only [CnD.M, List.mem_cons, List.mem_append] at hh
    have hold : ∀ z, z ∈ D.M cb → z < w.heap.size := HMLT.out
    rcases hh with hh | hh | hh | hh | hh
    · have := hold y (by subst hh; simp [CnD.M]); omega
    · unfold rbsD at hh
      rw [HRB.out] at hh
      rcases List.mem_cons.1 hh with hh | hh
      · have := hold y (by subst hh; simp [CnD.M, rbsD, HRB.out]); omega
      · exact hdis y hh hy
    · have := hold y (by simp [CnD.M, hh]); omega
    · have := hold y (by simp [CnD.M, hh]); omega
    · have := hold y (by simp [CnD.M, hh]); omega⟩
  have HRS := Lib.hid hrs
  have HWS := Lib.hid hws
  have HKR : Hid (rs.length = k) := Lib.hid hpay.len
  have hsz1 := hoff.size
  clear hrs hpay hrd1 hws hoff hA' hdis h1 s1 HFE c0 c2 c4 lc
  go_wp2
  go_loopw [35] (fun iv wr => FdI w B cb D (D.rdr A' n' c' ws' b) PA k kc rs iv wr) (fun iv _ => k - (intOf iv).toNat)
  case atStart => exact HST.out
  case round =>
    obtain ⟨i, LA', lc', rows', hi2, rfl, hc, hs, hv, hln, hgd, hp, hdj⟩ := hrel
    have HC2 := Lib.hid hc
    have HS2 := Lib.hid hs
    have HV2 := Lib.hid hv
    have HLN := Lib.hid hln
    have HGD := Lib.hid hgd
    have HP2 := Lib.hid hp
    have HDJ := Lib.hid hdj
    have hszr := hs.off.size
    have hkc := hp.own.cap
    have hkl := hp.own.le
    unfold maxLen at hkc
    clear hc hs hv hln hgd hp hdj
    rcases Nat.lt_or_ge i k with h1 | h1
    · have hil : i < rs.length := by have := HKR.out; omega
      obtain ⟨g, off, rfl, hg1, hg2, hcl2, hfz⟩ := HP2.out.own.cell (by omega)
      obtain ⟨y, hy⟩ : ∃ y, rs[i]'hil = y := ⟨_, rfl⟩
      have hey : wr.cell? ⟨g, off + i, none⟩ = some (.slice (some ⟨y.b, 0, none⟩) y.n y.c) := hcl2 i _ (by rw [List.getElem?_map, List.getElem?_eq_getElem hil, hy]; rfl)
      have hym : y ∈ rs := by rw [← hy]; exact List.getElem_mem hil
      have hrow := HP2.out.row y hym
      have hargy : Arg wr wr.heap.size (some ⟨y.b, 0, none⟩) y.n y.c y.p := hrow.own.arg' hrow.byte
      have hpi : (rs.map (·.p)).getD i [] = y.p := by simp [List.getD_eq_getElem?_getD, List.getElem?_eq_getElem hil, hy]
      have hbyx := rqV_byteL hrow.byte
      obtain ⟨⟨x, f⟩, hxf⟩ : ∃ z, rqV y.p = z := ⟨_, rfl⟩
      rw [hxf] at hbyx
      obtain ⟨mx, hmx⟩ : ∃ mx, x.ks.length = mx := ⟨_, rfl⟩
      have HRR := Lib.hid (rrx wr (some ⟨y.b, 0, none⟩) y.n y.c y.p hargy x f hxf mx hmx)
      have HXF := Lib.hid hxf
      have HMX := Lib.hid hmx
      have HPI := Lib.hid hpi
      have HBX := Lib.hid hbyx
      have j0 : (0 : Int) ≤ (i : Int) := by omega
      have j1 : (i : Int) < (k : Int) := by omega
      have HY := Lib.hid hy
      clear hcl2 hfz hy hym hrow hargy hpi hbyx hxf hmx
      go_wp2_with fail
      with_reducible refine (HRR.out).mono ?_
      rintro e w3 ⟨KA, kc3, rfl, hok, hb3⟩
      have b4 : Below wr.heap.size wr (w3.alloc (.cells #[.int .u8 x.o, .int .i64 x.p, .slice KA mx kc3, .int .i64 x.s] 71)) := hb3.alloc hb3.size _
      by_cases hf0 : f = 0
      · subst hf0
        have bl := (Below.refl (w3.alloc (.cells #[.int .u8 x.o, .int .i64 x.p, .slice KA mx kc3, .int .i64 x.s] 71)).heap.size (w3.alloc (.cells #[.int .u8 x.o, .int .i64 x.p, .slice KA mx kc3, .int .i64 x.s] 71))).alloc (Nat.le_refl _) (.cells #[.int .u8 x.o, .int .i64 x.p, .slice KA mx kc3, .int .i64 x.s] 71)
        have b5 : Below wr.heap.size wr (((w3.alloc (.cells #[.int .u8 x.o, .int .i64 x.p, .slice KA mx kc3, .int .i64 x.s] 71)).alloc (.cells #[.int .u8 x.o, .int .i64 x.p, .slice KA mx kc3, .int .i64 x.s] 71)).drew) := (b4.trans (bl.mono b4.size)).drew
        have HB5 := Lib.hid b5
        have h5 := HC2.out.below b5
        have HOK5 : Hid (OwnV (((w3.alloc (.cells #[.int .u8 x.o, .int .i64 x.p, .slice KA mx kc3, .int .i64 x.s] 71)).alloc (.cells #[.int .u8 x.o, .int .i64 x.p, .slice KA mx kc3, .int .i64 x.s] 71)).drew) wr.heap.size KA x.ks.length kc3 (x.ks.map V8)) := Lib.hid (by
          rw [HMX.out]
          exact ((hok.below ((Below.refl _ _).alloc (Nat.le_refl _) _)).below bl).below (Below.refl _ _).drew)
        have HOWN : Hid (OwnS (((w3.alloc (.cells #[.int .u8 x.o, .int .i64 x.p, .slice KA mx kc3, .int .i64 x.s] 71)).alloc (.cells #[.int .u8 x.o, .int .i64 x.p, .slice KA mx kc3, .int .i64 x.s] 71)).drew) B 4 LA' rows'.length lc' (FCl rows')) := Lib.hid h5.line
        have HSRC : Hid (SrcS (((w3.alloc (.cells #[.int .u8 x.o, .int .i64 x.p, .slice KA mx kc3, .int .i64 x.s] 71)).alloc (.cells #[.int .u8 x.o, .int .i64 x.p, .slice KA mx kc3, .int .i64 x.s] 71)).drew) 4 (some ⟨w3.heap.size + 1, 0, none⟩) 1 (FCl [⟨x.o, x.p, x.s, KA, kc3, x.ks⟩])) := Lib.hid (by
          rw [FCl_one]
          have hb := (BlkL.new (w3.alloc (.cells #[.int .u8 x.o, .int .i64 x.p, .slice KA mx kc3, .int .i64 x.s] 71)) [.int .u8 x.o, .int .i64 x.p, .slice KA mx kc3, .int .i64 x.s] 71).drew
          rw [show (w3.alloc (.cells #[.int .u8 x.o, .int .i64 x.p, .slice KA mx kc3, .int .i64 x.s] 71)).heap.size = w3.heap.size + 1 by simp] at hb
          have e : ClR.cells ⟨x.o, x.p, x.s, KA, kc3, x.ks⟩ = [.int .u8 x.o, .int .i64 x.p, .slice KA mx kc3, .int .i64 x.s] := by simp [ClR.cells, HMX.out]
          rw [e]
          exact BlkL.srcS hb (by rw [← e]; exact ClR.one _) 1 rfl)
        have dj := h5.dj
        have HDJ5 := Lib.hid dj.cL
        have HBLK := Lib.hid h5.blk
        have c1 : w3.cell? ⟨cb, 1, none⟩ = some (.slice LA' rows'.length lc') := by
          have := (HC2.out.below hb3).blk.cell 1 _ rfl
          exact this
        have cl1 := (HC2.out.below hb3).blk.lt
        have hnn : (rows'.length + 1) * 48 ≤ 140737488355328 := by have := HLN.out; have := HK.out; have := HRS.out; have e := congrArg List.length HRS.out; rw [List.length_map] at e; omega
        have hbb : B ≤ (((w3.alloc (.cells #[.int .u8 x.o, .int .i64 x.p, .slice KA mx kc3, .int .i64 x.s] 71)).alloc (.cells #[.int .u8 x.o, .int .i64 x.p, .slice KA mx kc3, .int .i64 x.s] 71)).drew).heap.size := by have := b5.size; omega
        have hz3 := hb3.size
        clear h5 bl b4 b5 hok hb3 dj hey
        go_wp2_with fail
        go_region_law (first
          | (refine step_append_s Try.underlying98 hi hz0 hz1 hz2 rfl rfl (.tmp 52) (.tmp 54) rfl rfl HOWN.out (some ⟨w3.heap.size + 1, 0, none⟩) 1 1 _ rfl HSRC.out (fun e => by cases e) (by omega) hnn hbb ?_; intro A3 c3 w5 ho5 hf5 hbk5; have k5 := HBLK.out.off hf5 HDJ5.out; have d1 := k5.cell 1 _ rfl; have df1 := k5.froz 1 (by simp [CnD.cells]); have dl := k5.lt; have HO5 := Lib.hid ho5; have HF5 := Lib.hid hf5; have HBK5 := Lib.hid hbk5; clear ho5 hf5 hbk5 k5))
        all_goals
          have hmid := fd_mid HC2.out HS2.out HP2.out HDJ.out HB5.out HOK5.out HBX.out HO5.out HF5.out (fun y hy => (HBK5.out y hy).imp id (fun e => by have := e.1; simp only [World.size_drew, World.size_alloc] at this ⊢; omega))
          have HMID := Lib.hid hmid
          have hgl : (rs.map (·.p)).take (i + 1) = (rs.map (·.p)).take i ++ [y.p] := by
            have hl : i < (rs.map (·.p)).length := by simpa using hil
            rw [List.take_succ_eq_append_getElem hl]
            have := HPI.out
            rw [List.getD_eq_getElem?_getD, List.getElem?_eq_getElem hl] at this
            rw [show (rs.map (·.p))[i] = y.p from this]
          have HGL := Lib.hid hgl
          clear hmid hgl d1 df1 dl c1 cl1
          go_wp2
          go_roundw
          case rel =>
            refine ⟨i + 1, A3, c3, rows' ++ [⟨x.o, x.p, x.s, KA, kc3, x.ks⟩], by omega, by push_cast; rfl, HMID.out.1, HMID.out.2.1, ?_, ?_, ?_, HMID.out.2.2.1, HMID.out.2.2.2⟩
            · rw [HGL.out, List.map_append, HV2.out, List.map_append, List.append_assoc]
              congr 1
              simp [HXF.out]
            · rw [List.length_append, HLN.out]; simp; omega
            · rw [HGL.out]
              intro q hq
              rcases List.mem_append.1 hq with h | h
              · exact HGD.out q h
              · simp at h; subst h; rw [HXF.out]
          case measure => simp [intOf]; omega
      · have hf1 : (f != 0) = true := by simpa using hf0
        have H4 := Lib.hid (HC2.out.below b4)
        have S4 := Lib.hid (HS2.out.trans (Stp.of_below b4))
        have HSP := Lib.hid (cn_stop _ B cb _ H4.out 3)
        have HF0 := Lib.hid hf0
        clear b4 hok hb3 hey hf0
        go_wp2_with fail
        with_reducible refine (HSP.out).mono ?_
        rintro e w5 ⟨rfl, h5, s5⟩
        have H5 := Lib.hid h5
        have S5 := Lib.hid (S4.out.trans s5)
        clear h5 s5 HSP
        go_wp2
        go_ret
        have hg := gath_bad (rs.map (·.p)) i (by simpa using hil) HGD.out (by rw [HPI.out, HXF.out]; exact HF0.out)
        rw [HRS.out] at hg
        have e1 : (fdV D.ws zs).1 = (fr.1.take i).map fun p => (rqV p).1 := by rw [HFD.out, hg]
        have e2 : (fdV D.ws zs).2 = 3 := by rw [HFD.out, hg]; rfl
        refine ⟨none, A', n', c', ws', b, LA', lc', rows', 3, rfl, H5.out, S5.out, ?_, e2.symm, fun h => by simp at h, fun _ => rfl⟩
        rw [e1, HV2.out, HRS.out]
    · obtain rfl : i = k := by omega
      have hall : (rs.map (·.p)).take i = fr.1 := by rw [List.take_of_length_le (by rw [List.length_map]; have := HKR.out; omega)]; exact HRS.out
      have HALL := Lib.hid hall
      have hg := gath_good fr.1 (by rw [← hall]; exact HGD.out)
      have e1 : (fdV D.ws zs).1 = fr.1.map fun p => (rqV p).1 := by rw [HFD.out, hg]
      have e2 : (fdV D.ws zs).2 = fe := by rw [HFD.out, hg]; rfl
      have HE := Lib.hid (And.intro e1 e2)
      clear hall hg e1 e2
      cases hb : b with
      | true =>
        have hfe : fe = 12 := by rw [HFEE.out, hb]; rfl
        have HSP := Lib.hid (cn_stop wr B cb _ HC2.out 12)
        have HFE2 := Lib.hid hfe
        have hfn : (fe != 0) = true := by rw [hfe]; rfl
        clear hfe hb
        go_wp2_with fail
        with_reducible refine (HSP.out).mono ?_
        rintro e w5 ⟨rfl, h5, s5⟩
        have H5 := Lib.hid h5
        have S5 := Lib.hid (HS2.out.trans s5)
        clear h5 s5 HSP
        go_wp2
        go_ret
        refine ⟨none, A', n', c', ws', b, LA', lc', rows', 12, rfl, H5.out, S5.out, ?_, by rw [HE.out.2, HFE2.out], fun h => by simp at h, fun _ => rfl⟩
        rw [HE.out.1, HV2.out, HALL.out]
      | false =>
        have hfe : fe = 0 := by rw [HFEE.out, hb]; rfl
        have HFE2 := Lib.hid hfe
        have HBB := Lib.hid hb
        have hfn : (fe != 0) = false := by rw [hfe]; rfl
        clear hfe hb
        go_wp2
        go_ret
        refine ⟨D.rb, A', n', c', ws', b, LA', lc', rows', D.fin, rfl, HC2.out, HS2.out, ?_, by rw [HE.out.2, HFE2.out, HFIN.out], fun _ => ⟨rfl, by rw [HFR.out]; exact HWS.out HBB.out, HBB.out⟩, fun h => absurd HFIN.out h⟩
        rw [HE.out.1, HV2.out, HALL.out]
end Go.Proofs.Ytndgladfcogiiaa


/- A connection's methods, with what they leave told by its parts. -/
namespace Go.Proofs.Ytndgladfcogiiaa
open Go.RowKit
set_option maxRecDepth 100000
set_option linter.unusedVariables false

theorem fr_one {x : ClV} (h : rqC x.o x.p x.s x.ks.length = 0) : Fr.frV ([] ++ rqF x) = ([rqB x.o x.p x.s x.ks], [], false) := by
  have e : rqF x = Fr.encV (rqB x.o x.p x.s x.ks) := by unfold rqF; rw [if_pos h]
  rw [List.nil_append, e]
  have := Fr.fr_enc (rqB x.o x.p x.s x.ks) [] (rq_min h).1 (rqB_max h)
  rw [List.append_nil, Fr.fr_nil] at this
  exact this
theorem fd_one {x : ClV} (h : rqC x.o x.p x.s x.ks.length = 0) : fdV [] (rqF x) = ([usedV x], 0) := by
  have hv : rqV (rqB x.o x.p x.s x.ks) = (usedV x, 0) := by
    obtain ⟨o, p, s, ks⟩ := x
    exact rqV_self h
  unfold fdV
  rw [fr_one h]
  simp [gath, hv]
theorem OwnS.litT (w : World) (t : TkR) (T : TypeId) : OwnS (w.alloc (.cells t.cells.toArray T)) w.heap.size 3 (some ⟨w.heap.size, 0, none⟩) 1 1 (FTk [t]) := by
  have hb := BlkL.new w t.cells T
  refine ⟨by rw [FTk_one]; rfl, Nat.le_refl _, by unfold maxLen; omega, (fun e => by cases e), fun a ha => ?_⟩
  injection ha with ha
  subst ha
  refine ⟨rfl, Nat.le_refl _, by simp, fun j hj => ⟨?_, ?_⟩, fun j v hj => ?_⟩
  · have hl : j < t.cells.length := by rw [TkR.len]; omega
    have := hb.cell j _ (List.getElem?_eq_getElem hl)
    simp only [Nat.zero_add]; rw [this]; rfl
  · have := hb.froz j (by rw [TkR.len]; omega)
    rw [Nat.zero_add]; exact this
  · rw [FTk_one] at hj
    have := hb.cell j v hj
    simpa using this
/-- The parts that a step leaves. -/
structure Kept (D D' : CnD) : Prop where
  rb : D'.rb = D.rb
  ws : D'.ws = D.ws
  rc : D'.rc = D.rc
  fin : D'.fin = D.fin
  cl : D'.cl = D.cl
theorem CnM.wl {w : World} {B cb : Nat} {D : CnD} (h : CnM w B cb D) {rb : Nat} (e : D.rb = some rb) : D.wn = D.ws.length := ((h.rd rb e).1.len).symm
theorem CnM.hl {w : World} {B cb : Nat} {D : CnD} (h : CnM w B cb D) : D.toks.map (·.ks.length) = (D.toks.map TkR.v).map (·.ks.length) := by simp
theorem cn_take2 (w : World) (B cb : Nat) (D : CnD) (h : CnM w B cb D) : Calls Try.prog 64 #[.pointer (some ⟨cb, 0, none⟩)] w fun e w' => CnE w B cb D { D with UA := none, uc := 0, us := [] } (.slice D.UA D.us.length D.uc) e w' ∧ Off [cb] w w' := by
  have c5 := h.blk.cell 5 _ rfl
  have f5 := h.blk.froz 5 (by simp [CnD.cells])
  have lt := h.blk.lt
  go_enter Try.func64, Try.ntmps64
  go_wp2
  have fo : Off [cb] w (w.setCell ⟨cb, 5, none⟩ (.slice none 0 0)) := (Off.refl _ _).setCell (p := ⟨cb, 5, none⟩) (by simp) _
  have hb := h.blk.set 5 (.slice none 0 0) (by simp [CnD.cells])
  have hr := h.upd (D' := { D with UA := none, uc := 0, us := [] }) fo hb ⟨.inr ⟨rfl, rfl, rfl, rfl, rfl, rfl⟩, .inr ⟨rfl, rfl, rfl⟩, .inr rfl, .inl ⟨rfl, rfl, rfl⟩, rfl, rfl, rfl⟩
  go_ret
  exact ⟨⟨rfl, hr.1, hr.2⟩, fo⟩
theorem ab_take (w : World) (B cb : Nat) (D : CnD) (h : CnM w B cb D) (n : Nat) (hn : D.us.length = n) : Calls Try.prog 64 #[.pointer (some ⟨cb, 0, none⟩)] w fun e w' => ∃ A c D', e = .returned (.slice A n c) ∧ CnM w' B cb D' ∧ Stp w w' cb D D' ∧ OwnV w' B A n c (D.us.map V8) ∧ D'.us = [] ∧ D'.ob = D.ob ∧ D'.rows = D.rows ∧ D'.toks = D.toks ∧ Kept D D' := by
  subst hn
  refine (cn_take2 w B cb D h).mono ?_
  rintro e w' ⟨⟨he, hc, hs⟩, hf⟩
  exact ⟨_, _, _, he, hc, hs, h.uns.off hf (fun y hy hh => by simp at hh; subst hh; exact h.dj.cU hy), rfl, rfl, rfl, rfl, ⟨rfl, rfl, rfl, rfl, rfl⟩⟩
section
variable (w : World) (B cb : Nat) (D : CnD) (h : CnM w B cb D) (hB : B ≤ w.heap.size)
include h hB
theorem ab_feed (rb : Nat) (hrb : D.rb = some rb) (hrc : D.rc = false) (hcl : D.cl = false) (hfin : D.fin = 0) (S : Option Addr) (m d : Nat) (zs : List Nat) (ha : Arg w w.heap.size S m d zs) (g : List ClV × Int) (hg : fdV D.ws zs = g) (rest : List Nat) (hr : (Fr.frV (D.ws ++ zs)).2.1 = rest)
    (hnm : D.ws.length + m ≤ 211106232532992) (hk : D.rows.length + (Fr.frV (D.ws ++ zs)).1.length ≤ 1000000) :
    Calls Try.prog 61 #[.pointer (some ⟨cb, 0, none⟩), .slice S m d] w fun e w' => ∃ D', e = .returned (.int .i64 0) ∧ CnM w' B cb D' ∧ Stp w w' cb D D' ∧ D'.rows.map ClR.v = D.rows.map ClR.v ++ g.1 ∧ D'.fin = g.2 ∧ (g.2 = 0 → D'.rb = some rb ∧ D'.ws = rest ∧ D'.rc = false) ∧ D'.ob = D.ob ∧ D'.cl = D.cl ∧ D'.us = D.us ∧ D'.toks = D.toks := by
  refine (cn_feed w B cb D h hB rb hrb hrc hcl hfin S m d zs ha (by rw [h.wl hrb]; exact hnm) hk).mono ?_
  rintro e w' ⟨rb', A', n', c', ws', rc', LA', lc', rows', f, he, hc, hs, hv, hf, h0, h1⟩
  subst hg
  subst hf
  refine ⟨_, he, hc, hs, hv, rfl, fun hh => ?_, rfl, rfl, rfl, rfl⟩
  obtain ⟨e1, e2, e3⟩ := h0 hh
  exact ⟨e1.trans hrb, by rw [← hr]; exact e2, e3⟩
theorem ab_next (ho : D.ob = none) (hcl : D.cl = false) (x : ClV) (xs : List ClV) (hrs : D.rows.map ClR.v = x :: xs) (hl : x.ks.length ≤ 140737488355328) (m : Nat) (hm : x.ks.length = m) : Calls Try.prog 62 #[.pointer (some ⟨cb, 0, none⟩)] w fun e w' =>
    ∃ KB kc D' q, e = .returned (.tuple #[ClA x.o x.p KB m kc x.s, .int .i64 0]) ∧ OwnV w' w.heap.size KB m kc (x.ks.map V8) ∧ CnM w' B cb D' ∧ Stp w w' cb D D' ∧ D'.ob = some q ∧ q.2.v = x ∧ D'.rows.map ClR.v = xs ∧ Kept D D' ∧ D'.us = D.us ∧ D'.toks = D.toks := by
  subst hm
  cases hrows : D.rows with
  | nil => rw [hrows] at hrs; simp at hrs
  | cons r rs =>
    rw [hrows] at hrs
    simp only [List.map_cons, List.cons.injEq] at hrs
    obtain ⟨rfl, rfl⟩ := hrs
    refine (cn_next_line w B cb D h hB ho hcl r rs hrows hl).mono ?_
    rintro e w' ⟨KB, kc, A', c', ob, he, hok, hc, hs⟩
    exact ⟨KB, kc, _, (ob, r), he, hok, hc, hs, rfl, rfl, rfl, ⟨rfl, rfl, rfl, rfl, rfl⟩, rfl, rfl⟩
theorem ab_reply (r : RpV) (hr : r.ok = true) (q : Nat × ClR) (x : ClV) (ho : D.ob = some q) (hq : q.2.v = x) (h3 : r.E ≠ 0 ∨ x.o ≠ 3) (hn : D.toks.length ≤ 1000000) (us' : List Nat) (hu : us' = if D.cl then D.us else D.us ++ Fr.encV r.bytes) (ts' : List TkV) (ht : ts' = afterV (D.toks.map TkR.v) x r.E r.c) (hul : D.us.length + 38 ≤ 140737488355328) :
    Calls Try.prog 63 #[.pointer (some ⟨cb, 0, none⟩), r.val] w fun e w' => ∃ D', e = .returned (.int .i64 0) ∧ CnM w' B cb D' ∧ Stp w w' cb D D' ∧ D'.ob = none ∧ D'.us = us' ∧ D'.toks.map TkR.v = ts' ∧ D'.rows = D.rows ∧ Kept D D' := by
  subst hq
  refine (cn_reply_good w B cb D h hB r hr q ho h3 hn hul).mono ?_
  rintro e w' ⟨A', c', L', A2, c2, ⟨he, hc, hs⟩, hv⟩
  exact ⟨_, he, hc, hs, rfl, by rw [hu]; rfl, by rw [ht]; exact hv, rfl, ⟨rfl, rfl, rfl, rfl, rfl⟩⟩
end
end Go.Proofs.Ytndgladfcogiiaa


/- Contract: the law's awake. -/
namespace Go.Proofs.Ytndgladfcogiiaa
open Go.RowKit
set_option maxRecDepth 100000
set_option linter.unusedVariables false

abbrev aw22 : ClV := ⟨2, 1, 0, [107]⟩
abbrev aw22r : RpV := ⟨0, true, 1, 0, 5, 0⟩
theorem aw22_ok : rqC aw22.o aw22.p aw22.s aw22.ks.length = 0 := by decide
theorem aw22_len : (rqF aw22).length = 8 := by decide +kernel
theorem aw22_used : usedV aw22 = aw22 := rfl
theorem aw22_fd (rb : Nat) : fdV (CnD.new rb).ws (rqF aw22) = ([aw22], 0) := fd_one aw22_ok
theorem aw22_fr (rb : Nat) : Fr.frV ((CnD.new rb).ws ++ rqF aw22) = ([rqB 2 1 0 [107]], [], false) := fr_one aw22_ok
theorem tell_one (w : World) (B cb : Nat) (D : CnD) (h : CnM w B cb D) (x : TkV) (hx : D.toks.map TkR.v = [x]) (hl : x.ks.length ≤ 140737488355328) : Calls Try.prog 56 #[.pointer (some ⟨cb, 0, none⟩)] w fun e w' =>
    ∃ A c t, e = .returned (.slice A 1 c) ∧ TksA w' A 1 c [t] ∧ t.v = x ∧ Below w.heap.size w w' := by
  have hlen : D.toks.length = 1 := by have := congrArg List.length hx; simpa using this
  refine (cn_ledger w B cb D h (by omega) (fun t ht => ?_)).mono ?_
  · have : t.v ∈ D.toks.map TkR.v := List.mem_map_of_mem ht
    rw [hx] at this
    simp at this
    rw [← this] at hl; exact hl
  · rintro e w' ⟨A, c, L, rfl, ho, hv, hk, hb⟩
    rw [hx] at hv
    cases L with
    | nil => simp at hv
    | cons t L =>
      simp only [List.map_cons, List.cons.injEq, List.map_eq_nil_iff] at hv
      obtain ⟨h1, rfl⟩ := hv
      exact ⟨A, c, t, rfl, ⟨⟨_, ho⟩, fun t ht => (hk t ht).arg⟩, h1, hb⟩
set_option maxHeartbeats 3200000 in
theorem awake22_any (w : World) : Calls Try.prog 54 #[] w (ValEnd w (.bool true)) := by
  have kcv := fun (w : World) (C : Array Value) (n c : Nat) => Lib.run_convert_bytes_const (P := Try.prog) w 22 5 C n c Try.underlying22 Try.underlying5
  go_enter Try.func54, Try.ntmps54
  go_wp2_with fail
  with_reducible refine (cn_new w).mono ?_
  rintro e w1 ⟨rfl, hc, hb⟩
  obtain ⟨rb, hrb⟩ : ∃ rb, rb = w.heap.size := ⟨_, rfl⟩
  obtain ⟨cb, hcb⟩ : ∃ cb, cb = w.heap.size + 1 := ⟨_, rfl⟩
  rw [← hcb] at hc
  rw [← hcb]
  have hc1 : CnM w1 w.heap.size cb (CnD.new rb) := by rw [hrb]; exact hc
  have bl := (Below.refl w1.heap.size w1).alloc (Nat.le_refl _) (.cells #[.int .u8 107] 5 (1, 2))
  have HC := Lib.hid (hc1.below bl)
  have HB := Lib.hid (hb.trans (bl.mono hb.size))
  have HRQ : Hid (Calls Try.prog 59 #[.agg #[.int .u8 2, .int .i64 1, .slice (some ⟨w1.heap.size, 0, none⟩) 1 1, .int .i64 0]] (w1.alloc (.cells #[.int .u8 107] 5 (1, 2))) fun e w' =>
      ∃ XA xc, e = .returned (.slice XA 8 xc) ∧ OwnV w' (w1.heap.size + 1) XA 8 xc ((rqF aw22).map V8) ∧ (∀ d ∈ rqF aw22, d < 256) ∧ Below (w1.heap.size + 1) (w1.alloc (.cells #[.int .u8 107] 5 (1, 2))) w') := Lib.hid (by
    refine (req_any (w1.alloc (.cells #[.int .u8 107] 5 (1, 2))) (w1.heap.size + 1) aw22 (some ⟨w1.heap.size, 0, none⟩) 1 1 (lit1 w1 107 (1, 2) (by omega)) (by simp)).mono ?_
    rintro e w' ⟨XA, xc, h1, h2, h3, _, h5⟩
    rw [aw22_len] at h1 h2
    exact ⟨XA, xc, h1, by simpa using h2, h3, by simpa using h5⟩)
  have HCB := Lib.hid hcb
  clear hc hc1 hb bl hrb hcb
  go_wp2_with fail
  with_reducible refine (HRQ.out).mono ?_
  rintro e w2 ⟨XA, xc, rfl, ho, hby, hb2⟩
  have hb2' : Below (w1.alloc (.cells #[.int .u8 107] 5 (1, 2))).heap.size (w1.alloc (.cells #[.int .u8 107] 5 (1, 2))) w2 := by simpa using hb2
  have hc2 := HC.out.below hb2'
  have HB2 := Lib.hid (HB.out.trans (hb2'.mono HB.out.size))
  have HF := Lib.hid (ab_feed w2 w.heap.size cb (CnD.new rb) hc2 HB2.out.size rb rfl rfl rfl rfl XA 8 xc (rqF aw22) (ho.arg' hby) ([aw22], 0) (aw22_fd rb) [] (by rw [aw22_fr]) (by show 0 + 8 ≤ _; omega) (by rw [aw22_fr]; show 0 + 1 ≤ _; omega))
  have HC2 := Lib.hid hc2
  clear ho hby hb2 hb2' hc2 HRQ HC HB
  go_wp2_with fail
  with_reducible refine (HF.out).mono ?_
  rintro e w3 ⟨D3, rfl, h3, s3, hv3, hf3, h03, ho3, hcl3, hus3, htk3⟩
  have HB3 := Lib.hid (HB2.out.trans (s3.below HC2.out HB2.out.size))
  have HN : Hid (Calls Try.prog 62 #[.pointer (some ⟨cb, 0, none⟩)] w3 fun e w' => ∃ KB kc D' q, e = .returned (.tuple #[.agg #[.int .u8 2, .int .i64 1, .slice KB 1 kc, .int .i64 0], .int .i64 0]) ∧ OwnV w' w3.heap.size KB 1 kc ([107].map V8) ∧ CnM w' w.heap.size cb D' ∧ Stp w3 w' cb D3 D' ∧ D'.ob = some q ∧ q.2.v = aw22 ∧ D'.rows.map ClR.v = [] ∧ Kept D3 D' ∧ D'.us = D3.us ∧ D'.toks = D3.toks) :=
    Lib.hid (ab_next w3 w.heap.size cb D3 h3 HB3.out.size ho3 hcl3 aw22 [] hv3 (by simp) 1 rfl)
  have H3 := Lib.hid h3
  have HP3 := Lib.hid (And.intro hcl3 (And.intro hus3 htk3))
  clear h3 s3 hv3 hf3 h03 ho3 hcl3 hus3 htk3 HF HC2 HB2
  go_wp2_with fail
  with_reducible refine (HN.out).mono ?_
  rintro e w4 ⟨KB, kc, D4, q, rfl, hok4, h4, s4, ho4, hq4, hr4, hk4, hu4, ht4⟩
  have hbA := (Below.refl w4.heap.size w4).alloc (Nat.le_refl _) (.cells #[.int .u8 2, .int .i64 1, .slice KB 1 kc, .int .i64 0] 71)
  have HB4 := Lib.hid (HB3.out.trans (s4.below H3.out HB3.out.size))
  have HB5 := Lib.hid (HB4.out.trans (hbA.mono HB4.out.size))
  have HK5 := Lib.hid (BlkL.new w4 [.int .u8 2, .int .i64 1, .slice KB 1 kc, .int .i64 0] 71)
  have HMN : Hid (w4.heap.size ∉ D4.M cb) := Lib.hid (fun hh => by have := (h4.lt _ hh).2; omega)
  have H5 := Lib.hid (h4.below hbA)
  have HNO := Lib.hid (cn_next_out (w4.alloc (.cells #[.int .u8 2, .int .i64 1, .slice KB 1 kc, .int .i64 0] 71)) w.heap.size cb D4 H5.out q ho4)
  have HP4 := Lib.hid (And.intro ho4 (And.intro hq4 (And.intro hk4 (And.intro hu4 ht4))))
  clear hok4 h4 s4 ho4 hq4 hr4 hk4 hu4 ht4 hbA HN H3 HB3
  go_wp2_with fail
  with_reducible refine (HNO.out).mono ?_
  rintro e w6 ⟨rfl, hb6⟩
  have hbA := (Below.refl w6.heap.size w6).alloc (Nat.le_refl _) (.cells #[.int .u8 0, .int .i64 0, .slice none 0 0, .int .i64 0] 71)
  have HB7 := Lib.hid ((HB5.out.trans (hb6.mono HB5.out.size)).trans (hbA.mono (HB5.out.trans (hb6.mono HB5.out.size)).size))
  have HK7 := Lib.hid ((HK5.out.below hb6).below hbA)
  have H7 := Lib.hid ((H5.out.below hb6).below hbA)
  have hcl4 : D4.cl = false := HP4.out.2.2.1.cl.trans HP3.out.1
  have hus4 : D4.us = [] := HP4.out.2.2.2.1.trans HP3.out.2.1
  have htk4 : D4.toks = [] := HP4.out.2.2.2.2.trans HP3.out.2.2
  have HRP : Hid (Calls Try.prog 63 #[.pointer (some ⟨cb, 0, none⟩), .agg #[.int .i64 0, .bool true, .int .i64 1, .int .i64 0, .int .i64 5, .int .i64 0]] (w6.alloc (.cells #[.int .u8 0, .int .i64 0, .slice none 0 0, .int .i64 0] 71)) fun e w' => ∃ D', e = .returned (.int .i64 0) ∧ CnM w' w.heap.size cb D' ∧ Stp (w6.alloc (.cells #[.int .u8 0, .int .i64 0, .slice none 0 0, .int .i64 0] 71)) w' cb D4 D' ∧ D'.ob = none ∧ D'.us = Fr.encV aw22r.bytes ∧ D'.toks.map TkR.v = [⟨1, 5, [107]⟩] ∧ D'.rows = D4.rows ∧ Kept D4 D') :=
    Lib.hid (ab_reply _ w.heap.size cb D4 H7.out HB7.out.size aw22r (by decide) q aw22 HP4.out.1 HP4.out.2.1 (.inr (by decide)) (by rw [htk4]; simp) (Fr.encV aw22r.bytes) (by rw [hcl4, hus4]; rfl) [⟨1, 5, [107]⟩] (by rw [htk4]; rfl) (by rw [hus4]; simp))
  clear hb6 hbA hcl4 hus4 htk4 HNO H5 HB5 HK5 HB4
  go_wp2_with fail
  with_reducible refine (HRP.out).mono ?_
  rintro e w8 ⟨D8, rfl, h8, s8, ho8, hu8, ht8, hr8, hk8⟩
  have HB8 := Lib.hid (HB7.out.trans (s8.below H7.out HB7.out.size))
  have k8 := HK7.out.off s8.off HMN.out
  have k0 := k8.cell 0 _ rfl
  have kl := k8.lt
  have HTA := Lib.hid (ab_take w8 w.heap.size cb D8 h8 38 (by rw [hu8, encV_length, RpV.len]))
  have H8 := Lib.hid h8
  have HT8 := Lib.hid ht8
  clear h8 s8 ho8 hu8 ht8 hr8 hk8 k8 HRP H7 HB7 HK7
  go_wp2_with fail
  with_reducible refine (HTA.out).mono ?_
  rintro e w9 ⟨A9, c9, D9, rfl, h9, s9, ho9, hu9, hob9, hr9, ht9, hk9⟩
  have HB9 := Lib.hid (HB8.out.trans (s9.below H8.out HB8.out.size))
  have HTO := Lib.hid (tell_one w9 w.heap.size cb D9 h9 ⟨1, 5, [107]⟩ (by rw [ht9]; exact HT8.out) (by simp))
  clear h9 s9 ho9 hu9 hob9 hr9 ht9 hk9 HTA H8 HB8 k0 kl
  go_wp2_with fail
  with_reducible refine (HTO.out).mono ?_
  rintro e w10 ⟨A10, c10, t10, rfl, ht10, hv10, hb10⟩
  have HB10 := Lib.hid (HB9.out.trans (hb10.mono HB9.out.size))
  have ba := (Below.refl w10.heap.size w10).alloc (Nat.le_refl _) (.cells #[.int .u8 107] 5 (1, 2))
  have bb := (Below.refl (w10.alloc (.cells #[.int .u8 107] 5 (1, 2))).heap.size (w10.alloc (.cells #[.int .u8 107] 5 (1, 2)))).alloc (Nat.le_refl _) (.cells #[.int .i64 1, .slice (some ⟨w10.heap.size, 0, none⟩) 1 1, .int .i64 5] 24)
  have HBF := Lib.hid ((HB10.out.trans (ba.mono HB10.out.size)).trans (bb.mono (HB10.out.trans (ba.mono HB10.out.size)).size))
  have tk2 : TksA ((w10.alloc (.cells #[.int .u8 107] 5 (1, 2))).alloc (.cells #[.int .i64 1, .slice (some ⟨w10.heap.size, 0, none⟩) 1 1, .int .i64 5] 24)) (some ⟨w10.heap.size + 1, 0, none⟩) 1 1 [⟨1, 5, some ⟨w10.heap.size, 0, none⟩, 1, [107]⟩] := by
    refine ⟨⟨w10.heap.size + 1, ?_⟩, fun t ht => ?_⟩
    · have := OwnS.litT (w10.alloc (.cells #[.int .u8 107] 5 (1, 2))) ⟨1, 5, some ⟨w10.heap.size, 0, none⟩, 1, [107]⟩ 24
      rw [show (w10.alloc (.cells #[.int .u8 107] 5 (1, 2))).heap.size = w10.heap.size + 1 by simp] at this
      exact this
    · simp at ht
      subst ht
      have l2 : Arg (w10.alloc (.cells #[.int .u8 107] 5 (1, 2))) (w10.alloc (.cells #[.int .u8 107] 5 (1, 2))).heap.size (some ⟨w10.heap.size, 0, none⟩) 1 1 [107] := (lit1 w10 107 (1, 2) (by omega)).more (by simp)
      exact (l2.below bb).more bb.size
  have HSM := Lib.hid (same22_any ((w10.alloc (.cells #[.int .u8 107] 5 (1, 2))).alloc (.cells #[.int .i64 1, .slice (some ⟨w10.heap.size, 0, none⟩) 1 1, .int .i64 5] 24)) A10 (some ⟨w10.heap.size + 1, 0, none⟩) 1 c10 1 1 [t10] [⟨1, 5, some ⟨w10.heap.size, 0, none⟩, 1, [107]⟩] ((ht10.below ba).below bb) tk2 (by simp [hv10]))
  clear ht10 hv10 hb10 ba bb tk2 HTO HB9 HB10
  go_wp2_with fail
  with_reducible refine (HSM.out).mono ?_
  rintro e w11 ⟨rfl, t, rfl⟩
  go_wp2
  go_ret
  exact ⟨rfl, below_drewN HBF.out t⟩
end Go.Proofs.Ytndgladfcogiiaa


/- A nil connection. -/
namespace Go.Proofs.Ytndgladfcogiiaa
open Go.RowKit
set_option maxRecDepth 100000
set_option linter.unusedVariables false

theorem nl_take (w : World) : Calls Try.prog 64 #[.pointer none] w fun e w' => e = .returned (.slice none 0 0) ∧ w = w' := by
  go_enter Try.func64, Try.ntmps64
  go_wp2
  go_ret
  exact ⟨rfl, rfl⟩
theorem nl_hang (w : World) : Calls Try.prog 65 #[.pointer none] w fun e w' => e = .returned (.slice none 0 0) ∧ w = w' := by
  go_enter Try.func65, Try.ntmps65
  go_wp2
  go_ret
  exact ⟨rfl, rfl⟩
theorem nl_ledger (w : World) : Calls Try.prog 56 #[.pointer none] w fun e w' => e = .returned (.slice none 0 0) ∧ w = w' := by
  go_enter Try.func56, Try.ntmps56
  go_wp2
  go_ret
  exact ⟨rfl, rfl⟩
theorem nl_wait (w : World) : Calls Try.prog 57 #[.pointer none] w fun e w' => e = .returned (.int .i64 0) ∧ w = w' := by
  go_enter Try.func57, Try.ntmps57
  go_wp2
  go_ret
  exact ⟨rfl, rfl⟩
theorem nl_open (w : World) : Calls Try.prog 58 #[.pointer none] w fun e w' => e = .returned (.bool false) ∧ w = w' := by
  go_enter Try.func58, Try.ntmps58
  go_wp2
  go_ret
  exact ⟨rfl, rfl⟩
theorem nd_take (w : World) : Calls Try.prog 106 #[.pointer none] w fun e w' => e = .returned (.slice none 0 0) ∧ w = w' := by
  go_enter Try.func106, Try.ntmps106
  go_wp2
  go_ret
  exact ⟨rfl, rfl⟩
theorem nd_hang (w : World) : Calls Try.prog 107 #[.pointer none] w fun e w' => e = .returned (.slice none 0 0) ∧ w = w' := by
  go_enter Try.func107, Try.ntmps107
  go_wp2
  go_ret
  exact ⟨rfl, rfl⟩
theorem nd_feed (w : World) (v : Value) : Calls Try.prog 103 #[.pointer none, v] w fun e w' => e = .returned (.int .i64 7) ∧ w = w' := by
  go_enter Try.func103, Try.ntmps103
  go_wp2
  go_ret
  exact ⟨rfl, rfl⟩
theorem nd_next (w : World) : Calls Try.prog 104 #[.pointer none] w fun e w' => e = .returned (.tuple #[ClA 0 0 none 0 0 0, .int .i64 7]) ∧ Below w.heap.size w w' := by
  go_enter Try.func104, Try.ntmps104
  go_wp2
  have k := clK w 0 0 none 0 0 0
  have c0 := k.cell 0 _ rfl
  have c1 := k.cell 1 _ rfl
  have c2 := k.cell 2 _ rfl
  have c3 := k.cell 3 _ rfl
  refine bodyPost_ret (v := .tuple #[ClA 0 0 none 0 0 0, .int .i64 7]) ?_ rfl ⟨rfl, clBl w 0 0 none 0 0 0⟩
  simp [results, Try.results104, go_sem]
/-- What a reply to nobody is answered with. -/
def rpN (r : RpV) : Int := if r.ok then 7 else 1
theorem nl_reply (w : World) (r : RpV) : Calls Try.prog 63 #[.pointer none, r.val] w fun e w' => e = .returned (.int .i64 (rpN r)) ∧ Below w.heap.size w w' := by
  cases hr : r.ok with
  | true => rw [show rpN r = 7 by unfold rpN; rw [hr]; rfl]; exact cn_reply_nil w r hr
  | false => rw [show rpN r = 1 by unfold rpN; rw [hr]; rfl]; exact cn_reply_bad w _ r hr
theorem nd_reply (w : World) (r : RpV) : Calls Try.prog 105 #[.pointer none, r.val] w fun e w' => e = .returned (.int .i64 (rpN r)) ∧ Below w.heap.size w w' := by
  have HB := Lib.hid (rpBl w r)
  have k := rpK w r
  have c0 := k.cell 0 _ rfl
  have c1 := k.cell 1 _ rfl
  have c2 := k.cell 2 _ rfl
  have c3 := k.cell 3 _ rfl
  have c4 := k.cell 4 _ rfl
  have c5 := k.cell 5 _ rfl
  have lk := k.lt
  clear k
  cases hr : r.ok with
  | true =>
    rw [show rpN r = 7 by unfold rpN; rw [hr]; rfl]
    have HR : Hid (Calls Try.prog 51 #[r.val] (rpW w r) fun e w' => ∃ XA xn xc, e = .returned (.tuple #[.slice XA xn xc, .int .i64 0]) ∧ Below (rpW w r).heap.size (rpW w r) w') := Lib.hid (by
      refine (docReply_any (rpW w r) r).mono ?_
      rintro e w' ⟨XA, xn, xc, he, _, hb⟩
      rw [hr] at he
      exact ⟨XA, xn, xc, he, hb⟩)
    go_enter Try.func105, Try.ntmps105
    go_wp2_with fail
    with_reducible refine (HR.out).mono ?_
    rintro e w1 ⟨XA, xn, xc, rfl, hb⟩
    have HB1 := Lib.hid (HB.out.trans (hb.mono (by simp)))
    clear hb
    go_wp2
    go_ret
    exact ⟨rfl, HB1.out⟩
  | false =>
    rw [show rpN r = 1 by unfold rpN; rw [hr]; rfl]
    have HR : Hid (Calls Try.prog 51 #[r.val] (rpW w r) fun e w' => ∃ XA xn xc, e = .returned (.tuple #[.slice XA xn xc, .int .i64 1]) ∧ Below (rpW w r).heap.size (rpW w r) w') := Lib.hid (by
      refine (docReply_any (rpW w r) r).mono ?_
      rintro e w' ⟨XA, xn, xc, he, _, hb⟩
      rw [hr] at he
      exact ⟨XA, xn, xc, he, hb⟩)
    go_enter Try.func105, Try.ntmps105
    go_wp2_with fail
    with_reducible refine (HR.out).mono ?_
    rintro e w1 ⟨XA, xn, xc, rfl, hb⟩
    have HB1 := Lib.hid (HB.out.trans (hb.mono (by simp)))
    clear hb
    go_wp2
    go_ret
    exact ⟨rfl, HB1.out⟩
/-- An operation of the law's script. -/
abbrev opB (k : Int) (A : Option Addr) (n c : Nat) (r : RpV) : List Value := [.int .u8 k, .slice A n c, .int .i64 r.E, .bool r.G, .int .i64 r.a, .int .i64 r.b, .int .i64 r.c, .int .i64 r.d]
abbrev OpA (k : Int) (A : Option Addr) (n c : Nat) (r : RpV) : Value := .agg #[.int .u8 k, .slice A n c, .int .i64 r.E, .bool r.G, .int .i64 r.a, .int .i64 r.b, .int .i64 r.c, .int .i64 r.d]
abbrev opW (w : World) (k : Int) (A : Option Addr) (n c : Nat) (r : RpV) : World := w.alloc (.cells #[.int .u8 k, .slice A n c, .int .i64 r.E, .bool r.G, .int .i64 r.a, .int .i64 r.b, .int .i64 r.c, .int .i64 r.d] 92)
theorem opK (w : World) (k : Int) (A : Option Addr) (n c : Nat) (r : RpV) : BlkL (opW w k A n c r) w.heap.size (opB k A n c r) := BlkL.new w _ _
theorem opBl (w : World) (k : Int) (A : Option Addr) (n c : Nat) (r : RpV) : Below w.heap.size w (opW w k A n c r) := (Below.refl _ _).alloc (Nat.le_refl _) _
theorem call_nil5 (w : World) (k : Nat) (A : Option Addr) (n c : Nat) (r : RpV) (h0 : k ≠ 0) (h1 : k ≠ 1) (h2 : k ≠ 2) (h3 : k ≠ 3) (h4 : k ≠ 4) : Calls Try.prog 55 #[.pointer none, .pointer none, OpA k A n c r] w (ValEnd w (.bool true)) := by
  have d0 : ((k : Int) == 0) = false := beq_eq_false_iff_ne.2 (by omega)
  have d1 : ((k : Int) == 1) = false := beq_eq_false_iff_ne.2 (by omega)
  have d2 : ((k : Int) == 2) = false := beq_eq_false_iff_ne.2 (by omega)
  have d3 : ((k : Int) == 3) = false := beq_eq_false_iff_ne.2 (by omega)
  have d4 : ((k : Int) == 4) = false := beq_eq_false_iff_ne.2 (by omega)
  have c0 := (opK w k A n c r).cell 0 _ rfl
  go_enter Try.func55, Try.ntmps55
  go_wp2
  go_ret
  exact ⟨rfl, opBl w k A n c r⟩
end Go.Proofs.Ytndgladfcogiiaa
