/- WireReads: how it is walked. -/
import Derived.Test.YtndgladfcogiiaaWrX
import Derived.Test.YtndgladfcogiiaaWrM
import Derived.Deep.RegionWith
import Derived.Deep.DeepCutAuto
import Derived.Test.YtndgladfcogiiaaFrCM
import Derived.Test.YtndgladfcogiiaaWrK
import Derived.Test.YtndgladfcogiiaaWrI
import Derived.Test.YtndgladfcogiiaaFrA
import Derived.Test.YtndgladfcogiiaaWrT

/- What the document guesses from the bytes, and that its answer is the program's. -/
namespace Go.Proofs.Ytndgladfcogiiaa
open Go.RowKit
set_option maxRecDepth 100000
set_option linter.unusedVariables false

/-- The number of the eight bytes behind the key. -/
def gsN (zs : List Nat) : Nat := Tk.numV (zs.drop (3 + zs.getD 2 0))
/-- The key at its place. -/
def gsK (zs : List Nat) : List Nat := (zs.drop 3).take (zs.getD 2 0)
/-- The document's guess. -/
def gsV (zs : List Nat) : ClV × Bool :=
  if zs.length = 0 then (ClV.zero, false)
  else if zs.getD 0 0 = 3 then (if decOk (zs.drop 1) then (⟨3, ((zs.drop 1).getD 2 0 : Nat), (dSer (zs.drop 1) : Nat), dKey (zs.drop 1)⟩, true) else (⟨3, 0, 0, []⟩, false))
  else if zs.getD 0 0 = 1 ∨ zs.getD 0 0 = 2 ∨ zs.getD 0 0 = 4 then
    (if zs.length < 3 ∨ zs.length < 3 + zs.getD 2 0 then (⟨zs.getD 0 0, 0, 0, []⟩, false)
    else if zs.getD 0 0 = 1 then (if zs.length ≠ 3 + zs.getD 2 0 + 8 ∨ 4611686018427387903 < gsN zs then (⟨1, (zs.getD 1 0 : Nat), 0, gsK zs⟩, false) else (⟨1, (zs.getD 1 0 : Nat), (gsN zs : Nat), gsK zs⟩, true))
    else (⟨zs.getD 0 0, (zs.getD 1 0 : Nat), 0, gsK zs⟩, true))
  else (⟨zs.getD 0 0, 0, 0, []⟩, decide (zs.getD 0 0 = 5) || decide (zs.getD 0 0 = 6))
/-- The document's answer. -/
def drV (zs : List Nat) : ClV × Int :=
  if 4096 < zs.length then (ClV.zero, 2)
  else if (gsV zs).2 = false then (ClV.zero, 3)
  else if rqC (gsV zs).1.o (gsV zs).1.p (gsV zs).1.s (gsV zs).1.ks.length = 0 ∧ rqB (gsV zs).1.o (gsV zs).1.p (gsV zs).1.s (gsV zs).1.ks = zs then ((gsV zs).1, 0) else (ClV.zero, 3)
theorem gs_drop (zs : List Nat) (i : Nat) : (zs.drop 1).getD i 0 = zs.getD (i + 1) 0 := by
  simp [List.getD_eq_getElem?_getD]
theorem gs_key (zs : List Nat) (k : Nat) : ((zs.drop 1).drop 2).take k = (zs.drop 3).take k := by rw [List.drop_drop]
theorem rqV_none {zs : List Nat} (hl : ¬ 4096 < zs.length) (h : toldV zs = none) : rqV zs = (ClV.zero, 3) := by
  unfold rqV; rw [if_neg hl, h]
theorem rqV_bad {zs : List Nat} (hl : ¬ 4096 < zs.length) {x : ClV} (h : toldV zs = some x) (hb : ¬ (rqC x.o x.p x.s x.ks.length = 0 ∧ rqB x.o x.p x.s x.ks = zs)) : rqV zs = (ClV.zero, 3) := by
  unfold rqV; rw [if_neg hl, h]; exact if_neg hb
theorem rqV_some {zs : List Nat} (hl : ¬ 4096 < zs.length) {x : ClV} (h : toldV zs = some x) : rqV zs = if rqC x.o x.p x.s x.ks.length = 0 ∧ rqB x.o x.p x.s x.ks = zs then (x, 0) else (ClV.zero, 3) := by
  unfold rqV; rw [if_neg hl, h]
theorem drV_no {zs : List Nat} (hl : ¬ 4096 < zs.length) {x : ClV} (h : gsV zs = (x, false)) : drV zs = (ClV.zero, 3) := by
  unfold drV; rw [if_neg hl, h]; exact if_pos rfl
theorem drV_yes {zs : List Nat} (hl : ¬ 4096 < zs.length) {x : ClV} (h : gsV zs = (x, true)) : drV zs = if rqC x.o x.p x.s x.ks.length = 0 ∧ rqB x.o x.p x.s x.ks = zs then (x, 0) else (ClV.zero, 3) := by
  unfold drV; rw [if_neg hl, h]; rfl
theorem drV_rqV {zs : List Nat} (hb : ∀ d ∈ zs, d < 256) : drV zs = rqV zs := by
  by_cases hl : 4096 < zs.length
  · unfold drV rqV; rw [if_pos hl, if_pos hl]
  by_cases h0 : zs.length = 0
  · have h1 : gsV zs = (ClV.zero, false) := by unfold gsV; rw [if_pos h0]
    have h2 : toldV zs = none := by unfold toldV; rw [if_pos h0]
    rw [drV_no hl h1, rqV_none hl h2]
  by_cases h3 : zs.getD 0 0 = 3
  · by_cases hd : decOk (zs.drop 1)
    · have h1 : gsV zs = (⟨3, ((zs.drop 1).getD 2 0 : Nat), (dSer (zs.drop 1) : Nat), dKey (zs.drop 1)⟩, true) := by unfold gsV; rw [if_neg h0, if_pos h3, if_pos hd]
      have h2 : toldV zs = some ⟨3, ((zs.drop 1).getD 2 0 : Nat), (dSer (zs.drop 1) : Nat), dKey (zs.drop 1)⟩ := by unfold toldV; rw [if_neg h0, if_neg (by omega), if_neg (by omega), if_pos h3, if_pos hd]
      rw [drV_yes hl h1, rqV_some hl h2]
    · have h1 : gsV zs = (⟨3, 0, 0, []⟩, false) := by unfold gsV; rw [if_neg h0, if_pos h3, if_neg hd]
      have h2 : toldV zs = some ⟨3, 0, 0, []⟩ := by unfold toldV; rw [if_neg h0, if_neg (by omega), if_neg (by omega), if_pos h3, if_neg hd]
      rw [drV_no hl h1, rqV_bad hl h2 (by rintro ⟨hc, _⟩; exact absurd hc (by decide))]
  by_cases h1 : zs.getD 0 0 = 1
  · have ed : (zs.drop 1).getD 1 0 = zs.getD 2 0 := gs_drop zs 1
    have ed0 : (zs.drop 1).getD 0 0 = zs.getD 1 0 := gs_drop zs 0
    by_cases hs : zs.length < 3 ∨ zs.length < 3 + zs.getD 2 0
    · have g1 : gsV zs = (⟨zs.getD 0 0, 0, 0, []⟩, false) := by unfold gsV; rw [if_neg h0, if_neg h3, if_pos (.inl h1), if_pos hs]
      have g2 : toldV zs = none := by unfold toldV; rw [if_neg h0, if_pos h1, ed, if_pos (by omega)]
      rw [drV_no hl g1, rqV_none hl g2]
    have hkl : (gsK zs).length = zs.getD 2 0 := by unfold gsK; rw [List.length_take, List.length_drop]; omega
    by_cases hq : zs.length ≠ 3 + zs.getD 2 0 + 8
    · have g1 : gsV zs = (⟨1, (zs.getD 1 0 : Nat), 0, gsK zs⟩, false) := by unfold gsV; rw [if_neg h0, if_neg h3, if_pos (.inl h1), if_neg hs, if_pos h1, if_pos (.inl hq)]
      rw [drV_no hl g1]
      by_cases hs2 : zs.length - 1 < 2 ∨ zs.length - 1 < 2 + zs.getD 2 0 + 8
      · have g2 : toldV zs = none := by unfold toldV; rw [if_neg h0, if_pos h1, ed, if_pos hs2]
        rw [rqV_none hl g2]
      · have g2 : toldV zs = some ⟨1, (zs.getD 1 0 : Nat), IntKind.i64.wrap (Tk.numV (((zs.drop 1).drop (2 + zs.getD 2 0)).take 8) : Nat), gsK zs⟩ := by
          unfold toldV gsK; rw [if_neg h0, if_pos h1, ed, ed0, if_neg hs2, gs_key]
        rw [rqV_bad hl g2]
        rintro ⟨hc, he⟩
        have := congrArg List.length he
        simp only [rqB, if_pos, List.length_append, List.length_cons, Tk.wordV_len, hkl] at this
        omega
    · have hq' : zs.length = 3 + zs.getD 2 0 + 8 := by omega
      have eN : ((zs.drop 1).drop (2 + zs.getD 2 0)).take 8 = zs.drop (3 + zs.getD 2 0) := by
        rw [List.drop_drop, show 1 + (2 + zs.getD 2 0) = 3 + zs.getD 2 0 by omega, List.take_of_length_le (by rw [List.length_drop]; omega)]
      have g2 : toldV zs = some ⟨1, (zs.getD 1 0 : Nat), IntKind.i64.wrap (gsN zs : Nat), gsK zs⟩ := by
        unfold toldV gsK gsN; rw [if_neg h0, if_pos h1, ed, ed0, if_neg (by omega), gs_key, eN]
      have hN : gsN zs < 18446744073709551616 := by
        unfold gsN
        have h9 := Tk.numV_lt (l := zs.drop (3 + zs.getD 2 0)) (fun d hd => hb d (List.mem_of_mem_drop hd))
        rw [show (zs.drop (3 + zs.getD 2 0)).length = 8 by rw [List.length_drop]; omega] at h9
        exact h9
      by_cases hm : 4611686018427387903 < gsN zs
      · have g1 : gsV zs = (⟨1, (zs.getD 1 0 : Nat), 0, gsK zs⟩, false) := by unfold gsV; rw [if_neg h0, if_neg h3, if_pos (.inl h1), if_neg hs, if_pos h1, if_pos (.inr hm)]
        rw [drV_no hl g1, rqV_bad hl g2]
        rintro ⟨hc, he⟩
        have ht : tkB (IntKind.i64.wrap (gsN zs : Int)) = true := by
          rcases rqC_ways hc with ho | ⟨_, _, ho⟩
          · rcases ho with ho | ho <;> cases ho
          · rcases ho with ⟨_, h⟩ | h | ⟨h, _⟩ | h
            · exact h
            · cases h
            · cases h
            · cases h
        have := wrap_tk hN ht
        omega
      · have g1 : gsV zs = (⟨1, (zs.getD 1 0 : Nat), (gsN zs : Nat), gsK zs⟩, true) := by unfold gsV; rw [if_neg h0, if_neg h3, if_pos (.inl h1), if_neg hs, if_pos h1, if_neg (by omega)]
        rw [drV_yes hl g1, rqV_some hl g2, IntWalk.i64_in _ (by omega)]
  by_cases h24 : zs.getD 0 0 = 2 ∨ zs.getD 0 0 = 4
  · have ed : (zs.drop 1).getD 1 0 = zs.getD 2 0 := gs_drop zs 1
    have ed0 : (zs.drop 1).getD 0 0 = zs.getD 1 0 := gs_drop zs 0
    by_cases hs : zs.length < 3 ∨ zs.length < 3 + zs.getD 2 0
    · have g1 : gsV zs = (⟨zs.getD 0 0, 0, 0, []⟩, false) := by unfold gsV; rw [if_neg h0, if_neg h3, if_pos (.inr h24), if_pos hs]
      have g2 : toldV zs = none := by unfold toldV; rw [if_neg h0, if_neg h1, if_pos h24, ed, if_pos (by omega)]
      rw [drV_no hl g1, rqV_none hl g2]
    · have g1 : gsV zs = (⟨zs.getD 0 0, (zs.getD 1 0 : Nat), 0, gsK zs⟩, true) := by unfold gsV; rw [if_neg h0, if_neg h3, if_pos (.inr h24), if_neg hs, if_neg h1]
      have g2 : toldV zs = some ⟨zs.getD 0 0, (zs.getD 1 0 : Nat), 0, gsK zs⟩ := by unfold toldV gsK; rw [if_neg h0, if_neg h1, if_pos h24, ed, ed0, if_neg (by omega), gs_key]
      rw [drV_yes hl g1, rqV_some hl g2]
  · have g2 : toldV zs = some ⟨zs.getD 0 0, 0, 0, []⟩ := by unfold toldV; rw [if_neg h0, if_neg h1, if_neg h24, if_neg h3]
    have g1 : gsV zs = (⟨zs.getD 0 0, 0, 0, []⟩, decide (zs.getD 0 0 = 5) || decide (zs.getD 0 0 = 6)) := by unfold gsV; rw [if_neg h0, if_neg h3, if_neg (by omega)]
    by_cases h56 : zs.getD 0 0 = 5 ∨ zs.getD 0 0 = 6
    · have e : (decide (zs.getD 0 0 = 5) || decide (zs.getD 0 0 = 6)) = true := by simpa using h56
      rw [e] at g1
      rw [drV_yes hl g1, rqV_some hl g2]
    · have e : (decide (zs.getD 0 0 = 5) || decide (zs.getD 0 0 = 6)) = false := by
        rw [Bool.or_eq_false_iff, decide_eq_false_iff_not, decide_eq_false_iff_not]; omega
      rw [e] at g1
      rw [drV_no hl g1, rqV_bad hl g2]
      rintro ⟨hc, _⟩
      rcases rqC_ways hc with ho | ⟨_, _, ho⟩
      · exact h56 ho
      · dsimp only at ho
        omega
end Go.Proofs.Ytndgladfcogiiaa


/- The document's guess, by ways. -/
namespace Go.Proofs.Ytndgladfcogiiaa
open Go.RowKit
set_option maxRecDepth 100000
set_option linter.unusedVariables false

/-- How guess ends. -/
def GsE (w : World) (x : ClV × Bool) (e : Ending) (w' : World) : Prop :=
  ∃ KA kc, e = .returned (.tuple #[ClA x.1.o x.1.p KA x.1.ks.length kc x.1.s, .bool x.2]) ∧ OwnV w' w.heap.size KA x.1.ks.length kc (x.1.ks.map V8) ∧ Below w.heap.size w w'
theorem gs_ret {w wf : World} {y : ClV × Bool} (x : ClV) (b : Bool) (hy : y = (x, b)) {m kc : Nat} {KA : Option Addr} (hm : x.ks.length = m) (tmps : Array Value) (hb : BlkL wf w.heap.size (clB x.o x.p KA m kc x.s)) (t2 : tmps[2]? = some (.pointer (some ⟨w.heap.size, 0, none⟩))) (t3 : tmps[3]? = some (.bool b))
    (hk : OwnV wf w.heap.size KA m kc (x.ks.map V8)) (ho : Below w.heap.size w wf) : bodyPost Try.prog Try.f99 (GsE w y) Exit.ret { tmps := tmps, defers := [] } wf := by
  subst hy
  subst hm
  have c0 := hb.cell 0 _ rfl
  have c1 := hb.cell 1 _ rfl
  have c2 := hb.cell 2 _ rfl
  have c3 := hb.cell 3 _ rfl
  exact bodyPost_ret (v := .tuple #[ClA x.o x.p KA x.ks.length kc x.s, .bool b]) (by simp [results, Try.results99, go_sem, t2, t3, c0, c1, c2, c3]) rfl ⟨KA, kc, rfl, hk, ho⟩
theorem gs_empty (w : World) (A : Option Addr) (n c : Nat) (hn : n = 0) : Calls Try.prog 99 #[.slice A n c] w (GsE w (ClV.zero, false)) := by
  have hn0 : ((n : Int) == 0) = true := by simp [hn]
  clear hn
  go_enter Try.func99, Try.ntmps99
  go_wp2
  exact gs_ret ClV.zero false rfl rfl _ (clK w 0 0 none 0 0 0) rfl rfl (OwnV.nil _ _) (clBl w 0 0 none 0 0 0)
theorem gs_other (w : World) (A : Option Addr) (n c o : Nat) (zs : List Nat) (h : Arg w w.heap.size A n c zs) (ho : zs.getD 0 0 = o) (h0 : 1 ≤ n) (h1 : o ≠ 1) (h2 : o ≠ 2) (h3 : o ≠ 3) (h4 : o ≠ 4) (r : Bool) (hr : (decide (o = 5) || decide (o = 6)) = r) : Calls Try.prog 99 #[.slice A n c] w (GsE w (⟨o, 0, 0, []⟩, r)) := by
  have hb0 : o < 256 := by have := h.lt 0; omega
  obtain ⟨b, off, rfl, hbB, hc⟩ := h.at_ (by omega)
  have hc0 : w.cell? ⟨b, off, none⟩ = some (.int .u8 (o : Int)) := by have := hc 0 (by omega); rw [ho] at this; simpa using this
  have hn0 : ((n : Int) == 0) = false := beq_eq_false_iff_ne.2 (by omega)
  have d1 : ((o : Int) == 1) = false := beq_eq_false_iff_ne.2 (by omega)
  have d2 : ((o : Int) == 2) = false := beq_eq_false_iff_ne.2 (by omega)
  have d3 : ((o : Int) == 3) = false := beq_eq_false_iff_ne.2 (by omega)
  have d4 : ((o : Int) == 4) = false := beq_eq_false_iff_ne.2 (by omega)
  have HK := Lib.hid (usW_k w 0 0 none 0 0 0 o 0 none 0 0 0)
  clear h hc
  go_enter Try.func99, Try.ntmps99
  by_cases h5 : o = 5
  · subst h5
    obtain rfl : r = true := by rw [← hr]; rfl
    go_wp2
    go_region
    go_wp2
    exact gs_ret ⟨5, 0, 0, []⟩ true rfl rfl _ ((clK w 5 0 none 0 0 0).alloc _).drew rfl rfl (OwnV.nil _ _) (usW_b w 5 0 none 0 0 0 5 0 none 0 0 0).drew
  · by_cases h6 : o = 6
    · subst h6
      obtain rfl : r = true := by rw [← hr]; rfl
      go_wp2
      go_region
      go_wp2
      exact gs_ret ⟨6, 0, 0, []⟩ true rfl rfl _ ((clK w 6 0 none 0 0 0).alloc _).drew rfl rfl (OwnV.nil _ _) (usW_b w 6 0 none 0 0 0 6 0 none 0 0 0).drew
    · obtain rfl : r = false := by rw [← hr, decide_eq_false h5, decide_eq_false h6]; rfl
      have d5 : ((o : Int) == 5) = false := beq_eq_false_iff_ne.2 (by omega)
      have d6 : ((o : Int) == 6) = false := beq_eq_false_iff_ne.2 (by omega)
      go_wp2
      go_region
      go_wp2
      exact gs_ret ⟨o, 0, 0, []⟩ false rfl rfl _ ((clK w o 0 none 0 0 0).alloc _).drew rfl rfl (OwnV.nil _ _) (usW_b w o 0 none 0 0 0 o 0 none 0 0 0).drew
theorem gs_fin {w wf : World} {y : ClV × Bool} (x : ClV) (b : Bool) (hy : y = (x, b)) {m kc : Nat} {KA : Option Addr} (hm : x.ks.length = m) {q0 q1 q2 q3 : Value} (tmps : Array Value) (hb : BlkL wf w.heap.size [q0, q1, q2, q3]) (t2 : tmps[2]? = some (.pointer (some ⟨w.heap.size, 0, none⟩))) (t3 : tmps[3]? = some (.bool b))
    (hk : OwnV wf (w.heap.size + 1) KA m kc (x.ks.map V8)) (ho : Below w.heap.size w wf) : bodyPost Try.prog Try.f99 (GsE w y) Exit.ret { tmps := tmps, defers := [] } (put4w wf w.heap.size x.o x.p (.slice KA m kc) x.s) := by
  have f4 : Off [w.heap.size] wf (put4w wf w.heap.size x.o x.p (.slice KA m kc) x.s) := ((((Off.refl [w.heap.size] wf).setCell (p := ⟨w.heap.size, 0, none⟩) (by simp) _).setCell (p := ⟨w.heap.size, 1, none⟩) (by simp) _).setCell (p := ⟨w.heap.size, 2, none⟩) (by simp) _).setCell (p := ⟨w.heap.size, 3, none⟩) (by simp) _
  refine gs_ret x b hy hm tmps (hb.put4 _ _ _ _) t2 t3 ((hk.off f4 (fun z hz hs => by simp at hs; subst hs; have := (hk.lt _ hz).1; omega)).mono (by omega)) ?_
  exact (((ho.setCell (p := ⟨w.heap.size, 0, none⟩) (Nat.le_refl _) _).setCell (p := ⟨w.heap.size, 1, none⟩) (Nat.le_refl _) _).setCell (p := ⟨w.heap.size, 2, none⟩) (Nat.le_refl _) _).setCell (p := ⟨w.heap.size, 3, none⟩) (Nat.le_refl _) _
set_option maxHeartbeats 1600000 in
theorem gs_3 (w : World) (A : Option Addr) (n c : Nat) (zs : List Nat) (h : Arg w w.heap.size A n c zs) (ho : zs.getD 0 0 = 3) (h0 : 1 ≤ n) (P S er : Int) (m : Nat) (L : List Nat) (r : Bool) (hr : (er == 0) = r) (hm : L.length = m) (y : ClV × Bool) (hy : y = (⟨3, P, S, L⟩, r))
    (hd : ∀ wx Ax cx, Arg wx wx.heap.size Ax (n - 1) cx (zs.drop 1) → Calls Try.prog 27 #[.slice Ax (n - 1) cx] wx fun e w' => ∃ KA kc, e = .returned (.tuple #[TokA P S KA m kc, .int .i64 er]) ∧ OwnV w' wx.heap.size KA m kc (L.map V8) ∧ Below wx.heap.size wx w') : Calls Try.prog 99 #[.slice A n c] w (GsE w y) := by
  have hf := h.fromB (k := 1) (by omega)
  obtain ⟨b, off, rfl, hbB, hc⟩ := h.at_ (by omega)
  have hc0 : w.cell? ⟨b, off, none⟩ = some (.int .u8 3) := by have := hc 0 (by omega); rw [ho] at this; simpa using this
  have hs : ∀ w', (Instr.slice 22 (.slice (some ⟨b, off, none⟩) n c) (some (.int .i64 1)) none none).run Try.prog w' = .ok (.slice (frB (some ⟨b, off, none⟩) c 1) (n - 1) (c - 1)) w' := fun w' => run_fromB2 w' _ n c 1 (by omega)
  obtain ⟨A1, hA1⟩ : ∃ A1, frB (some ⟨b, off, none⟩) c 1 = A1 := ⟨_, rfl⟩
  rw [hA1] at hf hs
  have hn0 : ((n : Int) == 0) = false := beq_eq_false_iff_ne.2 (by omega)
  have hsz : (usW w 0 0 none 0 0 0 3 0 none 0 0 0).heap.size = w.heap.size + 2 := by simp
  have HC := Lib.hid (hd (usW w 0 0 none 0 0 0 3 0 none 0 0 0) A1 (c - 1) ((hf.below (usW_b w 0 0 none 0 0 0 3 0 none 0 0 0)).more (by rw [hsz]; omega)))
  have HY := Lib.hid hy
  have HM := Lib.hid hm
  clear h hc hf hd hA1 hy hm
  go_enter Try.func99, Try.ntmps99
  go_wp2_with fail
  with_reducible refine (HC.out).mono ?_
  rintro e w3 ⟨KA, kc, rfl, ho3, hb3⟩
  rw [hsz] at ho3 hb3
  have k3 : BlkL w3 (w.heap.size + 1) [.int .u8 3, .int .i64 0, .slice none 0 0, .int .i64 0] := (usW_k w 0 0 none 0 0 0 3 0 none 0 0 0).below (by rw [hsz]; exact hb3)
  have r3 : BlkL w3 w.heap.size [.int .u8 0, .int .i64 0, .slice none 0 0, .int .i64 0] := ((clK w 0 0 none 0 0 0).alloc (.cells #[.int .u8 3, .int .i64 0, .slice none 0 0, .int .i64 0] 71)).below (by rw [hsz]; exact hb3)
  have b3 : Below w.heap.size w w3 := (usW_b w 0 0 none 0 0 0 3 0 none 0 0 0).trans (hb3.mono (by omega))
  have z3 := hb3.size
  rw [hsz] at z3
  have K4 := Lib.hid (k3.alloc (.cells #[.int .i64 P, .slice KA m kc, .int .i64 S] 24))
  have R4 := Lib.hid (r3.alloc (.cells #[.int .i64 P, .slice KA m kc, .int .i64 S] 24))
  have ht4 : BlkL (w3.alloc (.cells #[.int .i64 P, .slice KA m kc, .int .i64 S] 24)) w3.heap.size [.int .i64 P, .slice KA m kc, .int .i64 S] := BlkL.new w3 _ _
  have B4 := Lib.hid (b3.alloc (by have := b3.size; omega) (.cells #[.int .i64 P, .slice KA m kc, .int .i64 S] 24))
  have O4 := Lib.hid (ho3.below ((Below.refl _ _).alloc (by omega) (.cells #[.int .i64 P, .slice KA m kc, .int .i64 S] 24)))
  clear k3 r3 b3 ho3 hb3 HC
  have t0 := K4.out.cell 0 _ rfl
  have u0 := K4.out.froz 0 (by simp)
  have t1 := K4.out.cell 1 _ rfl
  have u1 := K4.out.froz 1 (by simp)
  have t2 := K4.out.cell 2 _ rfl
  have u2 := K4.out.froz 2 (by simp)
  have t3 := K4.out.cell 3 _ rfl
  have u3 := K4.out.froz 3 (by simp)
  have q0 := ht4.cell 0 _ rfl
  have q1 := ht4.cell 1 _ rfl
  have q2 := ht4.cell 2 _ rfl
  have l4 := K4.out.lt
  have l5 := ht4.lt
  have l6 := R4.out.lt
  have hne : w3.heap.size ≠ w.heap.size + 1 := by omega
  clear ht4
  go_wp2
  generalize w3.alloc (.cells #[.int .i64 P, .slice KA m kc, .int .i64 S] 24) = w4 at *
  go_region
  have f5 : Off [w.heap.size + 1] w4 ((((w4.setCell ⟨w.heap.size + 1, 1, none⟩ (.int .i64 P)).setCell ⟨w.heap.size + 1, 2, none⟩ (.slice KA m kc)).setCell ⟨w.heap.size + 1, 3, none⟩ (.int .i64 S)).drew) := ((((Off.refl _ _).setCell (p := ⟨w.heap.size + 1, 1, none⟩) (by simp) _).setCell (p := ⟨w.heap.size + 1, 2, none⟩) (by simp) _).setCell (p := ⟨w.heap.size + 1, 3, none⟩) (by simp) _).drew
  have k5 := (((K4.out.set 1 (.int .i64 P) (by simp)).set 2 (.slice KA m kc) (by simp)).set 3 (.int .i64 S) (by simp)).drew
  have r5 := R4.out.off f5 (by simp)
  have O5 := Lib.hid ((O4.out.off f5 (fun y hy => by have := (O4.out.lt y hy).1; simp; omega)).mono (B' := w.heap.size + 1) (by omega))
  have B5 := Lib.hid ((((B4.out.setCell (p := ⟨w.heap.size + 1, 1, none⟩) (by show w.heap.size ≤ w.heap.size + 1; omega) (.int .i64 P)).setCell (p := ⟨w.heap.size + 1, 2, none⟩) (by show w.heap.size ≤ w.heap.size + 1; omega) (.slice KA m kc)).setCell (p := ⟨w.heap.size + 1, 3, none⟩) (by show w.heap.size ≤ w.heap.size + 1; omega) (.int .i64 S)).drew)
  have R5 := Lib.hid r5
  have a0 := k5.cell 0 _ rfl
  have d10 := r5.cell 0 _ rfl
  have e0 := r5.froz 0 (by simp)
  have a1 := k5.cell 1 _ rfl
  have d11 := r5.cell 1 _ rfl
  have e1 := r5.froz 1 (by simp)
  have a2 := k5.cell 2 _ rfl
  have d12 := r5.cell 2 _ rfl
  have e2 := r5.froz 2 (by simp)
  have a3 := k5.cell 3 _ rfl
  have d13 := r5.cell 3 _ rfl
  have e3 := r5.froz 3 (by simp)
  have l7 := k5.lt
  have l8 := r5.lt
  clear f5 k5 r5 t0 t1 t2 t3 u0 u1 u2 u3 q0 q1 q2
  generalize ((((w4.setCell ⟨w.heap.size + 1, 1, none⟩ (.int .i64 P)).setCell ⟨w.heap.size + 1, 2, none⟩ (.slice KA m kc)).setCell ⟨w.heap.size + 1, 3, none⟩ (.int .i64 S)).drew) = w5 at *
  go_wp2
  exact gs_fin ⟨3, P, S, L⟩ r HY.out HM.out _ R5.out rfl rfl O5.out B5.out
theorem gs_short1 (w : World) (A : Option Addr) (n c : Nat) (zs : List Nat) (h : Arg w w.heap.size A n c zs) (ho : zs.getD 0 0 = 1) (h0 : 1 ≤ n) (hs : n < 3 ∨ n < 3 + zs.getD 2 0) : Calls Try.prog 99 #[.slice A n c] w (GsE w (⟨1, 0, 0, []⟩, false)) := by
  have hk2 := h.lt 2
  obtain ⟨k, hk⟩ : ∃ k, zs.getD 2 0 = k := ⟨_, rfl⟩
  rw [hk] at hs hk2
  obtain ⟨b, off, rfl, hbB, hc⟩ := h.at_ (by omega)
  have hc0 : w.cell? ⟨b, off, none⟩ = some (.int .u8 1) := by have := hc 0 (by omega); rw [ho] at this; simpa using this
  have hn0 : ((n : Int) == 0) = false := beq_eq_false_iff_ne.2 (by omega)
  rcases Nat.lt_or_ge n 3 with h3 | h3
  · have d3 : decide ((n : Int) < 3) = true := decide_eq_true (by omega)
    clear h hc
    go_enter Try.func99, Try.ntmps99
    go_wp2
    exact gs_ret ⟨1, 0, 0, []⟩ false rfl rfl _ ((clK w 1 0 none 0 0 0).alloc _) rfl rfl (OwnV.nil _ _) (usW_b w 1 0 none 0 0 0 1 0 none 0 0 0)
  · have d3 : decide ((n : Int) < 3) = false := decide_eq_false (by omega)
    have hc2 : w.cell? ⟨b, off + 2, none⟩ = some (.int .u8 (k : Int)) := by rw [hc 2 (by omega), hk]
    have d4 : decide ((n : Int) < 3 + (k : Int)) = true := decide_eq_true (by omega)
    clear h hc
    go_enter Try.func99, Try.ntmps99
    go_wp2
    exact gs_ret ⟨1, 0, 0, []⟩ false rfl rfl _ ((clK w 1 0 none 0 0 0).alloc _) rfl rfl (OwnV.nil _ _) (usW_b w 1 0 none 0 0 0 1 0 none 0 0 0)
theorem gs_short2 (w : World) (A : Option Addr) (n c : Nat) (zs : List Nat) (h : Arg w w.heap.size A n c zs) (ho : zs.getD 0 0 = 2) (h0 : 1 ≤ n) (hs : n < 3 ∨ n < 3 + zs.getD 2 0) : Calls Try.prog 99 #[.slice A n c] w (GsE w (⟨2, 0, 0, []⟩, false)) := by
  have hk2 := h.lt 2
  obtain ⟨k, hk⟩ : ∃ k, zs.getD 2 0 = k := ⟨_, rfl⟩
  rw [hk] at hs hk2
  obtain ⟨b, off, rfl, hbB, hc⟩ := h.at_ (by omega)
  have hc0 : w.cell? ⟨b, off, none⟩ = some (.int .u8 2) := by have := hc 0 (by omega); rw [ho] at this; simpa using this
  have hn0 : ((n : Int) == 0) = false := beq_eq_false_iff_ne.2 (by omega)
  rcases Nat.lt_or_ge n 3 with h3 | h3
  · have d3 : decide ((n : Int) < 3) = true := decide_eq_true (by omega)
    clear h hc
    go_enter Try.func99, Try.ntmps99
    go_wp2
    exact gs_ret ⟨2, 0, 0, []⟩ false rfl rfl _ ((clK w 2 0 none 0 0 0).alloc _) rfl rfl (OwnV.nil _ _) (usW_b w 2 0 none 0 0 0 2 0 none 0 0 0)
  · have d3 : decide ((n : Int) < 3) = false := decide_eq_false (by omega)
    have hc2 : w.cell? ⟨b, off + 2, none⟩ = some (.int .u8 (k : Int)) := by rw [hc 2 (by omega), hk]
    have d4 : decide ((n : Int) < 3 + (k : Int)) = true := decide_eq_true (by omega)
    clear h hc
    go_enter Try.func99, Try.ntmps99
    go_wp2
    exact gs_ret ⟨2, 0, 0, []⟩ false rfl rfl _ ((clK w 2 0 none 0 0 0).alloc _) rfl rfl (OwnV.nil _ _) (usW_b w 2 0 none 0 0 0 2 0 none 0 0 0)
theorem gs_short4 (w : World) (A : Option Addr) (n c : Nat) (zs : List Nat) (h : Arg w w.heap.size A n c zs) (ho : zs.getD 0 0 = 4) (h0 : 1 ≤ n) (hs : n < 3 ∨ n < 3 + zs.getD 2 0) : Calls Try.prog 99 #[.slice A n c] w (GsE w (⟨4, 0, 0, []⟩, false)) := by
  have hk2 := h.lt 2
  obtain ⟨k, hk⟩ : ∃ k, zs.getD 2 0 = k := ⟨_, rfl⟩
  rw [hk] at hs hk2
  obtain ⟨b, off, rfl, hbB, hc⟩ := h.at_ (by omega)
  have hc0 : w.cell? ⟨b, off, none⟩ = some (.int .u8 4) := by have := hc 0 (by omega); rw [ho] at this; simpa using this
  have hn0 : ((n : Int) == 0) = false := beq_eq_false_iff_ne.2 (by omega)
  rcases Nat.lt_or_ge n 3 with h3 | h3
  · have d3 : decide ((n : Int) < 3) = true := decide_eq_true (by omega)
    clear h hc
    go_enter Try.func99, Try.ntmps99
    go_wp2
    exact gs_ret ⟨4, 0, 0, []⟩ false rfl rfl _ ((clK w 4 0 none 0 0 0).alloc _) rfl rfl (OwnV.nil _ _) (usW_b w 4 0 none 0 0 0 4 0 none 0 0 0)
  · have d3 : decide ((n : Int) < 3) = false := decide_eq_false (by omega)
    have hc2 : w.cell? ⟨b, off + 2, none⟩ = some (.int .u8 (k : Int)) := by rw [hc 2 (by omega), hk]
    have d4 : decide ((n : Int) < 3 + (k : Int)) = true := decide_eq_true (by omega)
    clear h hc
    go_enter Try.func99, Try.ntmps99
    go_wp2
    exact gs_ret ⟨4, 0, 0, []⟩ false rfl rfl _ ((clK w 4 0 none 0 0 0).alloc _) rfl rfl (OwnV.nil _ _) (usW_b w 4 0 none 0 0 0 4 0 none 0 0 0)
end Go.Proofs.Ytndgladfcogiiaa


/- The document's guess of a call with a key. -/
namespace Go.Proofs.Ytndgladfcogiiaa
open Go.RowKit
set_option maxRecDepth 100000
set_option linter.unusedVariables false

/-- What stands while guess gathers a key. -/
structure GsI (w : World) (o : Nat) (b off p : Nat) (wu : World) : Prop where
  r : BlkL wu w.heap.size [.int .u8 0, .int .i64 0, .slice none 0 0, .int .i64 0]
  k : BlkL wu (w.heap.size + 1) [.int .u8 o, .int .i64 0, .slice none 0 0, .int .i64 0]
  c : wu.cell? ⟨b, off + 1, none⟩ = some (.int .u8 (p : Int))
  bl : Below w.heap.size w wu
theorem GsI.drew {w wu : World} {o b off p : Nat} (h : GsI w o b off p wu) : GsI w o b off p wu.drew := ⟨h.r.drew, h.k.drew, h.c, h.bl.drew⟩
/-- Behind it. -/
structure GsJ (w : World) (o p : Nat) (s : Int) (KA : Option Addr) (k kc : Nat) (ks : List Nat) (wu : World) : Prop where
  rr : BlkL wu w.heap.size [.int .u8 0, .int .i64 0, .slice none 0 0, .int .i64 0]
  kk : BlkL wu (w.heap.size + 1) [.int .u8 o, .int .i64 (p : Int), .slice KA k kc, .int .i64 s]
  ow : OwnV wu (w.heap.size + 2) KA k kc (ks.map V8)
  bl : Below w.heap.size w wu
theorem GsI.put {w wu : World} {o b off p k kc : Nat} {KA : Option Addr} {ks : List Nat} (h : GsI w o b off p wu) (ho : OwnV wu (w.heap.size + 2) KA k kc (ks.map V8)) :
    GsJ w o p 0 KA k kc ks ((wu.setCell ⟨w.heap.size + 1, 1, none⟩ (.int .i64 (p : Int))).setCell ⟨w.heap.size + 1, 2, none⟩ (.slice KA k kc)) := by
  have f : Off [w.heap.size + 1] wu ((wu.setCell ⟨w.heap.size + 1, 1, none⟩ (.int .i64 (p : Int))).setCell ⟨w.heap.size + 1, 2, none⟩ (.slice KA k kc)) := ((Off.refl _ _).setCell (p := ⟨w.heap.size + 1, 1, none⟩) (by simp) _).setCell (p := ⟨w.heap.size + 1, 2, none⟩) (by simp) _
  exact ⟨h.r.off f (by simp), (h.k.set 1 (.int .i64 (p : Int)) (by simp)).set 2 (.slice KA k kc) (by simp), ho.off f (fun y hy => by have := (ho.lt y hy).1; simp; omega), (h.bl.setCell (p := ⟨w.heap.size + 1, 1, none⟩) (by show w.heap.size ≤ w.heap.size + 1; omega) _).setCell (p := ⟨w.heap.size + 1, 2, none⟩) (by show w.heap.size ≤ w.heap.size + 1; omega) _⟩
set_option maxHeartbeats 3200000 in
theorem gs_key2 (w : World) (A : Option Addr) (n c : Nat) (zs : List Nat) (h : Arg w w.heap.size A n c zs) (ho : zs.getD 0 0 = 2) (h3 : 3 + zs.getD 2 0 ≤ n) : Calls Try.prog 99 #[.slice A n c] w (GsE w (⟨2, (zs.getD 1 0 : Nat), 0, gsK zs⟩, true)) := by
  have hk2 := h.lt 2
  have hp1 := h.lt 1
  obtain ⟨k, hk⟩ : ∃ k, zs.getD 2 0 = k := ⟨_, rfl⟩
  obtain ⟨p, hp⟩ : ∃ p, zs.getD 1 0 = p := ⟨_, rfl⟩
  obtain ⟨ks, hks⟩ : ∃ ks, gsK zs = ks := ⟨_, rfl⟩
  have hlk : ks.length = k := by rw [← hks]; unfold gsK; rw [List.length_take, List.length_drop, h.len, hk]; omega
  have hmid := h.mid (at_ := 3) (n := k) (by omega)
  have hle := h.le
  have hcap := h.cap
  unfold maxLen at hcap
  obtain ⟨b, off, rfl, hbB, hc⟩ := h.at_ (by omega)
  have hc0 : w.cell? ⟨b, off, none⟩ = some (.int .u8 2) := by have := hc 0 (by omega); rw [ho] at this; simpa using this
  have hc1 : w.cell? ⟨b, off + 1, none⟩ = some (.int .u8 (p : Int)) := by rw [hc 1 (by omega), hp]
  have hc2 : w.cell? ⟨b, off + 2, none⟩ = some (.int .u8 (k : Int)) := by rw [hc 2 (by omega), hk]
  rw [hk] at h3 hk2
  rw [hp] at hp1
  rw [hp, hks]
  unfold gsK at hks
  rw [hk] at hks
  rw [hks] at hmid
  have hs : ∀ w', (Instr.slice 22 (.slice (some ⟨b, off, none⟩) n c) (some (.int .i64 3)) (some (.int .i64 ((3 : Int) + (k : Int)))) none).run Try.prog w' = .ok (.slice (frB (some ⟨b, off, none⟩) c 3) k (c - 3)) w' := fun w' => run_midB w' _ n c 3 k (by omega)
  obtain ⟨A1, hA1⟩ : ∃ A1, frB (some ⟨b, off, none⟩) c 3 = A1 := ⟨_, rfl⟩
  rw [hA1] at hmid hs
  have hn0 : ((n : Int) == 0) = false := beq_eq_false_iff_ne.2 (by omega)
  have d3 : decide ((n : Int) < 3) = false := decide_eq_false (by omega)
  have d4 : decide ((n : Int) < 3 + (k : Int)) = false := decide_eq_false (by omega)
  have hw1 : IntKind.i64.wrap (p : Int) = (p : Int) := IntWalk.i64_in _ (by omega)
  have hw2 : IntKind.i64.wrap (k : Int) = (k : Int) := IntWalk.i64_in _ (by omega)
  have HT : Hid (∀ wu, GsI w 2 b off p wu → Calls Try.prog 77 #[.slice A1 k (c - 3)] wu fun e w' => ∃ KA kc, e = .returned (.slice KA k kc) ∧ GsI w 2 b off p w' ∧ OwnV w' (w.heap.size + 2) KA k kc (ks.map V8)) := Lib.hid fun wu hi => by
    have hz := hi.bl.size
    have hz1 := hi.k.lt
    refine (twin_any wu wu.heap.size A1 k (c - 3) ks ((hmid.below hi.bl).more hz) (Nat.le_refl _) (by omega)).mono ?_
    rintro e w' ⟨KA, kc, he, ho, hb⟩
    exact ⟨KA, kc, he, ⟨hi.r.below hb, hi.k.below hb, (hb.cell (p := ⟨b, off + 1, none⟩) (by show b < _; omega)).trans hi.c, hi.bl.trans (hb.mono hz)⟩, (ho.ownV).mono (by omega)⟩
  have hi0 : GsI w 2 b off p (usW w 0 0 none 0 0 0 2 0 none 0 0 0) := ⟨(clK w 0 0 none 0 0 0).alloc _, usW_k w 0 0 none 0 0 0 2 0 none 0 0 0, ((usW_b w 0 0 none 0 0 0 2 0 none 0 0 0).cell (p := ⟨b, off + 1, none⟩) (by show b < _; omega)).trans hc1, usW_b w 0 0 none 0 0 0 2 0 none 0 0 0⟩
  have HI0 := Lib.hid hi0
  have hbw : b < w.heap.size := by omega
  have HLK := Lib.hid hlk
  clear h hc hmid hk hp hks hA1 hi0 hlk
  go_enter Try.func99, Try.ntmps99
  go_upto_region 15 with (fail)
  go_cut [] (fun wx => ∃ KA kc, GsJ w 2 p 0 KA k kc ks wx)
  case first =>
    have hid := HI0.out.drew
    have g0 := hid.k.cell 0 _ rfl
    have g1 := hid.k.cell 1 _ rfl
    have g2 := hid.k.cell 2 _ rfl
    have g3 := hid.k.cell 3 _ rfl
    have gf1 := hid.k.froz 1 (by simp)
    have gf2 := hid.k.froz 2 (by simp)
    have gc := hid.c
    have gl := hid.k.lt
    go_region_with (first | (with_reducible refine (HT.out _ (by assumption)).mono ?_; rintro e wu ⟨KA, kc, rfl, hi, ho⟩; have g0 := hi.k.cell 0 _ rfl; have g1 := hi.k.cell 1 _ rfl; have g2 := hi.k.cell 2 _ rfl; have g3 := hi.k.cell 3 _ rfl; have gf1 := hi.k.froz 1 (by simp); have gf2 := hi.k.froz 2 (by simp); have gc := hi.c; have gl := hi.k.lt))
    all_goals
      go_wp2_with fail
      go_meet
      exact ⟨KA, kc, hi.put ho⟩
  case rest =>
    obtain ⟨KA, kc, hj⟩ := hcut
    have HJ := Lib.hid hj
    have a0 := hj.kk.cell 0 _ rfl
    have a1 := hj.kk.cell 1 _ rfl
    have a2 := hj.kk.cell 2 _ rfl
    have a3 := hj.kk.cell 3 _ rfl
    have af := hj.kk.froz 3 (by simp)
    have r0 := hj.rr.cell 0 _ rfl
    have r1 := hj.rr.cell 1 _ rfl
    have r2 := hj.rr.cell 2 _ rfl
    have r3 := hj.rr.cell 3 _ rfl
    have e0 := hj.rr.froz 0 (by simp)
    have e1 := hj.rr.froz 1 (by simp)
    have e2 := hj.rr.froz 2 (by simp)
    have e3 := hj.rr.froz 3 (by simp)
    have l7 := hj.kk.lt
    have l8 := hj.rr.lt
    have hcw : wc.cell? ⟨b, off, none⟩ = some (.int .u8 2) := (hj.bl.cell (p := ⟨b, off, none⟩) (by show b < _; omega)).trans hc0
    clear hj HT HI0
    go_wp2
    exact gs_fin ⟨2, (p : Nat), 0, ks⟩ true rfl HLK.out _ HJ.out.rr rfl rfl (HJ.out.ow.mono (by omega)) HJ.out.bl
set_option maxHeartbeats 3200000 in
theorem gs_key4 (w : World) (A : Option Addr) (n c : Nat) (zs : List Nat) (h : Arg w w.heap.size A n c zs) (ho : zs.getD 0 0 = 4) (h3 : 3 + zs.getD 2 0 ≤ n) : Calls Try.prog 99 #[.slice A n c] w (GsE w (⟨4, (zs.getD 1 0 : Nat), 0, gsK zs⟩, true)) := by
  have hk2 := h.lt 2
  have hp1 := h.lt 1
  obtain ⟨k, hk⟩ : ∃ k, zs.getD 2 0 = k := ⟨_, rfl⟩
  obtain ⟨p, hp⟩ : ∃ p, zs.getD 1 0 = p := ⟨_, rfl⟩
  obtain ⟨ks, hks⟩ : ∃ ks, gsK zs = ks := ⟨_, rfl⟩
  have hlk : ks.length = k := by rw [← hks]; unfold gsK; rw [List.length_take, List.length_drop, h.len, hk]; omega
  have hmid := h.mid (at_ := 3) (n := k) (by omega)
  have hle := h.le
  have hcap := h.cap
  unfold maxLen at hcap
  obtain ⟨b, off, rfl, hbB, hc⟩ := h.at_ (by omega)
  have hc0 : w.cell? ⟨b, off, none⟩ = some (.int .u8 4) := by have := hc 0 (by omega); rw [ho] at this; simpa using this
  have hc1 : w.cell? ⟨b, off + 1, none⟩ = some (.int .u8 (p : Int)) := by rw [hc 1 (by omega), hp]
  have hc2 : w.cell? ⟨b, off + 2, none⟩ = some (.int .u8 (k : Int)) := by rw [hc 2 (by omega), hk]
  rw [hk] at h3 hk2
  rw [hp] at hp1
  rw [hp, hks]
  unfold gsK at hks
  rw [hk] at hks
  rw [hks] at hmid
  have hs : ∀ w', (Instr.slice 22 (.slice (some ⟨b, off, none⟩) n c) (some (.int .i64 3)) (some (.int .i64 ((3 : Int) + (k : Int)))) none).run Try.prog w' = .ok (.slice (frB (some ⟨b, off, none⟩) c 3) k (c - 3)) w' := fun w' => run_midB w' _ n c 3 k (by omega)
  obtain ⟨A1, hA1⟩ : ∃ A1, frB (some ⟨b, off, none⟩) c 3 = A1 := ⟨_, rfl⟩
  rw [hA1] at hmid hs
  have hn0 : ((n : Int) == 0) = false := beq_eq_false_iff_ne.2 (by omega)
  have d3 : decide ((n : Int) < 3) = false := decide_eq_false (by omega)
  have d4 : decide ((n : Int) < 3 + (k : Int)) = false := decide_eq_false (by omega)
  have hw1 : IntKind.i64.wrap (p : Int) = (p : Int) := IntWalk.i64_in _ (by omega)
  have hw2 : IntKind.i64.wrap (k : Int) = (k : Int) := IntWalk.i64_in _ (by omega)
  have HT : Hid (∀ wu, GsI w 4 b off p wu → Calls Try.prog 77 #[.slice A1 k (c - 3)] wu fun e w' => ∃ KA kc, e = .returned (.slice KA k kc) ∧ GsI w 4 b off p w' ∧ OwnV w' (w.heap.size + 2) KA k kc (ks.map V8)) := Lib.hid fun wu hi => by
    have hz := hi.bl.size
    have hz1 := hi.k.lt
    refine (twin_any wu wu.heap.size A1 k (c - 3) ks ((hmid.below hi.bl).more hz) (Nat.le_refl _) (by omega)).mono ?_
    rintro e w' ⟨KA, kc, he, ho, hb⟩
    exact ⟨KA, kc, he, ⟨hi.r.below hb, hi.k.below hb, (hb.cell (p := ⟨b, off + 1, none⟩) (by show b < _; omega)).trans hi.c, hi.bl.trans (hb.mono hz)⟩, (ho.ownV).mono (by omega)⟩
  have hi0 : GsI w 4 b off p (usW w 0 0 none 0 0 0 4 0 none 0 0 0) := ⟨(clK w 0 0 none 0 0 0).alloc _, usW_k w 0 0 none 0 0 0 4 0 none 0 0 0, ((usW_b w 0 0 none 0 0 0 4 0 none 0 0 0).cell (p := ⟨b, off + 1, none⟩) (by show b < _; omega)).trans hc1, usW_b w 0 0 none 0 0 0 4 0 none 0 0 0⟩
  have HI0 := Lib.hid hi0
  have hbw : b < w.heap.size := by omega
  have HLK := Lib.hid hlk
  clear h hc hmid hk hp hks hA1 hi0 hlk
  go_enter Try.func99, Try.ntmps99
  go_upto_region 15 with (fail)
  go_cut [] (fun wx => ∃ KA kc, GsJ w 4 p 0 KA k kc ks wx)
  case first =>
    have hid := HI0.out.drew
    have g0 := hid.k.cell 0 _ rfl
    have g1 := hid.k.cell 1 _ rfl
    have g2 := hid.k.cell 2 _ rfl
    have g3 := hid.k.cell 3 _ rfl
    have gf1 := hid.k.froz 1 (by simp)
    have gf2 := hid.k.froz 2 (by simp)
    have gc := hid.c
    have gl := hid.k.lt
    go_region_with (first | (with_reducible refine (HT.out _ (by assumption)).mono ?_; rintro e wu ⟨KA, kc, rfl, hi, ho⟩; have g0 := hi.k.cell 0 _ rfl; have g1 := hi.k.cell 1 _ rfl; have g2 := hi.k.cell 2 _ rfl; have g3 := hi.k.cell 3 _ rfl; have gf1 := hi.k.froz 1 (by simp); have gf2 := hi.k.froz 2 (by simp); have gc := hi.c; have gl := hi.k.lt))
    all_goals
      go_wp2_with fail
      go_meet
      exact ⟨KA, kc, hi.put ho⟩
  case rest =>
    obtain ⟨KA, kc, hj⟩ := hcut
    have HJ := Lib.hid hj
    have a0 := hj.kk.cell 0 _ rfl
    have a1 := hj.kk.cell 1 _ rfl
    have a2 := hj.kk.cell 2 _ rfl
    have a3 := hj.kk.cell 3 _ rfl
    have af := hj.kk.froz 3 (by simp)
    have r0 := hj.rr.cell 0 _ rfl
    have r1 := hj.rr.cell 1 _ rfl
    have r2 := hj.rr.cell 2 _ rfl
    have r3 := hj.rr.cell 3 _ rfl
    have e0 := hj.rr.froz 0 (by simp)
    have e1 := hj.rr.froz 1 (by simp)
    have e2 := hj.rr.froz 2 (by simp)
    have e3 := hj.rr.froz 3 (by simp)
    have l7 := hj.kk.lt
    have l8 := hj.rr.lt
    have hcw : wc.cell? ⟨b, off, none⟩ = some (.int .u8 4) := (hj.bl.cell (p := ⟨b, off, none⟩) (by show b < _; omega)).trans hc0
    clear hj HT HI0
    go_wp2
    exact gs_fin ⟨4, (p : Nat), 0, ks⟩ true rfl HLK.out _ HJ.out.rr rfl rfl (HJ.out.ow.mono (by omega)) HJ.out.bl
set_option maxHeartbeats 3200000 in
theorem gs_len (w : World) (A : Option Addr) (n c : Nat) (zs : List Nat) (h : Arg w w.heap.size A n c zs) (ho : zs.getD 0 0 = 1) (h3 : 3 + zs.getD 2 0 ≤ n) (hq : n ≠ 3 + zs.getD 2 0 + 8) : Calls Try.prog 99 #[.slice A n c] w (GsE w (⟨1, (zs.getD 1 0 : Nat), 0, gsK zs⟩, false)) := by
  have hk2 := h.lt 2
  have hp1 := h.lt 1
  obtain ⟨k, hk⟩ : ∃ k, zs.getD 2 0 = k := ⟨_, rfl⟩
  obtain ⟨p, hp⟩ : ∃ p, zs.getD 1 0 = p := ⟨_, rfl⟩
  obtain ⟨ks, hks⟩ : ∃ ks, gsK zs = ks := ⟨_, rfl⟩
  have hlk : ks.length = k := by rw [← hks]; unfold gsK; rw [List.length_take, List.length_drop, h.len, hk]; omega
  have hmid := h.mid (at_ := 3) (n := k) (by omega)
  have hle := h.le
  have hcap := h.cap
  unfold maxLen at hcap
  obtain ⟨b, off, rfl, hbB, hc⟩ := h.at_ (by omega)
  have hc0 : w.cell? ⟨b, off, none⟩ = some (.int .u8 1) := by have := hc 0 (by omega); rw [ho] at this; simpa using this
  have hc1 : w.cell? ⟨b, off + 1, none⟩ = some (.int .u8 (p : Int)) := by rw [hc 1 (by omega), hp]
  have hc2 : w.cell? ⟨b, off + 2, none⟩ = some (.int .u8 (k : Int)) := by rw [hc 2 (by omega), hk]
  rw [hk] at h3 hk2
  rw [hp] at hp1
  rw [hp, hks]
  rw [hk] at hq
  unfold gsK at hks
  rw [hk] at hks
  rw [hks] at hmid
  have hs : ∀ w', (Instr.slice 22 (.slice (some ⟨b, off, none⟩) n c) (some (.int .i64 3)) (some (.int .i64 ((3 : Int) + (k : Int)))) none).run Try.prog w' = .ok (.slice (frB (some ⟨b, off, none⟩) c 3) k (c - 3)) w' := fun w' => run_midB w' _ n c 3 k (by omega)
  obtain ⟨A1, hA1⟩ : ∃ A1, frB (some ⟨b, off, none⟩) c 3 = A1 := ⟨_, rfl⟩
  rw [hA1] at hmid hs
  have hn0 : ((n : Int) == 0) = false := beq_eq_false_iff_ne.2 (by omega)
  have d3 : decide ((n : Int) < 3) = false := decide_eq_false (by omega)
  have d4 : decide ((n : Int) < 3 + (k : Int)) = false := decide_eq_false (by omega)
  have hw1 : IntKind.i64.wrap (p : Int) = (p : Int) := IntWalk.i64_in _ (by omega)
  have hw2 : IntKind.i64.wrap (k : Int) = (k : Int) := IntWalk.i64_in _ (by omega)
  have HT : Hid (∀ wu, GsI w 1 b off p wu → Calls Try.prog 77 #[.slice A1 k (c - 3)] wu fun e w' => ∃ KA kc, e = .returned (.slice KA k kc) ∧ GsI w 1 b off p w' ∧ OwnV w' (w.heap.size + 2) KA k kc (ks.map V8)) := Lib.hid fun wu hi => by
    have hz := hi.bl.size
    have hz1 := hi.k.lt
    refine (twin_any wu wu.heap.size A1 k (c - 3) ks ((hmid.below hi.bl).more hz) (Nat.le_refl _) (by omega)).mono ?_
    rintro e w' ⟨KA, kc, he, ho, hb⟩
    exact ⟨KA, kc, he, ⟨hi.r.below hb, hi.k.below hb, (hb.cell (p := ⟨b, off + 1, none⟩) (by show b < _; omega)).trans hi.c, hi.bl.trans (hb.mono hz)⟩, (ho.ownV).mono (by omega)⟩
  have hi0 : GsI w 1 b off p (usW w 0 0 none 0 0 0 1 0 none 0 0 0) := ⟨(clK w 0 0 none 0 0 0).alloc _, usW_k w 0 0 none 0 0 0 1 0 none 0 0 0, ((usW_b w 0 0 none 0 0 0 1 0 none 0 0 0).cell (p := ⟨b, off + 1, none⟩) (by show b < _; omega)).trans hc1, usW_b w 0 0 none 0 0 0 1 0 none 0 0 0⟩
  have HI0 := Lib.hid hi0
  have hbw : b < w.heap.size := by omega
  have HLK := Lib.hid hlk
  clear h hc hmid hk hp hks hA1 hi0 hlk
  have HQ := Lib.hid hq
  clear hq
  go_enter Try.func99, Try.ntmps99
  go_upto_region 15 with (fail)
  go_cut [] (fun wx => ∃ KA kc, GsJ w 1 p 0 KA k kc ks wx)
  case first =>
    have hid := HI0.out.drew
    have g0 := hid.k.cell 0 _ rfl
    have g1 := hid.k.cell 1 _ rfl
    have g2 := hid.k.cell 2 _ rfl
    have g3 := hid.k.cell 3 _ rfl
    have gf1 := hid.k.froz 1 (by simp)
    have gf2 := hid.k.froz 2 (by simp)
    have gc := hid.c
    have gl := hid.k.lt
    go_region_with (first | (with_reducible refine (HT.out _ (by assumption)).mono ?_; rintro e wu ⟨KA, kc, rfl, hi, ho⟩; have g0 := hi.k.cell 0 _ rfl; have g1 := hi.k.cell 1 _ rfl; have g2 := hi.k.cell 2 _ rfl; have g3 := hi.k.cell 3 _ rfl; have gf1 := hi.k.froz 1 (by simp); have gf2 := hi.k.froz 2 (by simp); have gc := hi.c; have gl := hi.k.lt))
    all_goals
      go_wp2_with fail
      go_meet
      exact ⟨KA, kc, hi.put ho⟩
  case rest =>
    obtain ⟨KA, kc, hj⟩ := hcut
    have HJ := Lib.hid hj
    have a0 := hj.kk.cell 0 _ rfl
    have a1 := hj.kk.cell 1 _ rfl
    have a2 := hj.kk.cell 2 _ rfl
    have a3 := hj.kk.cell 3 _ rfl
    have af := hj.kk.froz 3 (by simp)
    have r0 := hj.rr.cell 0 _ rfl
    have r1 := hj.rr.cell 1 _ rfl
    have r2 := hj.rr.cell 2 _ rfl
    have r3 := hj.rr.cell 3 _ rfl
    have e0 := hj.rr.froz 0 (by simp)
    have e1 := hj.rr.froz 1 (by simp)
    have e2 := hj.rr.froz 2 (by simp)
    have e3 := hj.rr.froz 3 (by simp)
    have l7 := hj.kk.lt
    have l8 := hj.rr.lt
    have hcw : wc.cell? ⟨b, off, none⟩ = some (.int .u8 1) := (hj.bl.cell (p := ⟨b, off, none⟩) (by show b < _; omega)).trans hc0
    clear hj HT HI0
    have d5 : ((n : Int) != (3 : Int) + (k : Int) + 8) = true := by have := HQ.out; rw [bne_iff_ne]; omega
    go_wp2
    exact gs_fin ⟨1, (p : Nat), 0, ks⟩ false rfl HLK.out _ HJ.out.rr rfl rfl (HJ.out.ow.mono (by omega)) HJ.out.bl
set_option maxHeartbeats 3200000 in
theorem gs_big (w : World) (A : Option Addr) (n c : Nat) (zs : List Nat) (h : Arg w w.heap.size A n c zs) (ho : zs.getD 0 0 = 1) (h3 : 3 + zs.getD 2 0 ≤ n) (hq : n = 3 + zs.getD 2 0 + 8) (hN : 4611686018427387903 < gsN zs) : Calls Try.prog 99 #[.slice A n c] w (GsE w (⟨1, (zs.getD 1 0 : Nat), 0, gsK zs⟩, false)) := by
  have hk2 := h.lt 2
  have hp1 := h.lt 1
  obtain ⟨k, hk⟩ : ∃ k, zs.getD 2 0 = k := ⟨_, rfl⟩
  obtain ⟨p, hp⟩ : ∃ p, zs.getD 1 0 = p := ⟨_, rfl⟩
  obtain ⟨ks, hks⟩ : ∃ ks, gsK zs = ks := ⟨_, rfl⟩
  have hlk : ks.length = k := by rw [← hks]; unfold gsK; rw [List.length_take, List.length_drop, h.len, hk]; omega
  have hmid := h.mid (at_ := 3) (n := k) (by omega)
  obtain ⟨N, hNN⟩ : ∃ N, gsN zs = N := ⟨_, rfl⟩
  have hrest := h.fromB (k := 3 + k) (by omega)
  have eN : Tk.numV (zs.drop (3 + k)) = N := by rw [← hNN]; unfold gsN; rw [hk]
  have hle := h.le
  have hcap := h.cap
  unfold maxLen at hcap
  obtain ⟨b, off, rfl, hbB, hc⟩ := h.at_ (by omega)
  have hc0 : w.cell? ⟨b, off, none⟩ = some (.int .u8 1) := by have := hc 0 (by omega); rw [ho] at this; simpa using this
  have hc1 : w.cell? ⟨b, off + 1, none⟩ = some (.int .u8 (p : Int)) := by rw [hc 1 (by omega), hp]
  have hc2 : w.cell? ⟨b, off + 2, none⟩ = some (.int .u8 (k : Int)) := by rw [hc 2 (by omega), hk]
  rw [hk] at h3 hk2
  rw [hp] at hp1
  rw [hp, hks]
  rw [hk] at hq
  rw [hNN] at hN
  unfold gsK at hks
  rw [hk] at hks
  rw [hks] at hmid
  have hs : ∀ w', (Instr.slice 22 (.slice (some ⟨b, off, none⟩) n c) (some (.int .i64 3)) (some (.int .i64 ((3 : Int) + (k : Int)))) none).run Try.prog w' = .ok (.slice (frB (some ⟨b, off, none⟩) c 3) k (c - 3)) w' := fun w' => run_midB w' _ n c 3 k (by omega)
  have hs2 : ∀ w', (Instr.slice 22 (.slice (some ⟨b, off, none⟩) n c) (some (.int .i64 ((3 : Int) + (k : Int)))) none none).run Try.prog w' = .ok (.slice (frB (some ⟨b, off, none⟩) c (3 + k)) 8 (c - (3 + k))) w' := fun w' => by
    have := run_fromB2 w' (some ⟨b, off, none⟩) n c (3 + k) (by omega)
    rw [show n - (3 + k) = 8 by omega] at this
    exact this
  obtain ⟨A2, hA2⟩ : ∃ A2, frB (some ⟨b, off, none⟩) c (3 + k) = A2 := ⟨_, rfl⟩
  rw [hA2] at hrest hs2
  rw [show n - (3 + k) = 8 by omega] at hrest
  have HNUM : Hid (∀ w', Below w.heap.size w w' → Calls Try.prog 76 #[.slice A2 8 (c - (3 + k))] w' fun e w'' => e = .returned (.int .u64 (N : Int)) ∧ w' = w'') := Lib.hid fun w' hb => by
    rw [← eN]
    exact number7_any w' w.heap.size _ 8 _ _ (by omega) (hrest.below hb)
  clear hrest eN hA2 hNN
  obtain ⟨A1, hA1⟩ : ∃ A1, frB (some ⟨b, off, none⟩) c 3 = A1 := ⟨_, rfl⟩
  rw [hA1] at hmid hs
  have hn0 : ((n : Int) == 0) = false := beq_eq_false_iff_ne.2 (by omega)
  have d3 : decide ((n : Int) < 3) = false := decide_eq_false (by omega)
  have d4 : decide ((n : Int) < 3 + (k : Int)) = false := decide_eq_false (by omega)
  have hw1 : IntKind.i64.wrap (p : Int) = (p : Int) := IntWalk.i64_in _ (by omega)
  have hw2 : IntKind.i64.wrap (k : Int) = (k : Int) := IntWalk.i64_in _ (by omega)
  have HT : Hid (∀ wu, GsI w 1 b off p wu → Calls Try.prog 77 #[.slice A1 k (c - 3)] wu fun e w' => ∃ KA kc, e = .returned (.slice KA k kc) ∧ GsI w 1 b off p w' ∧ OwnV w' (w.heap.size + 2) KA k kc (ks.map V8)) := Lib.hid fun wu hi => by
    have hz := hi.bl.size
    have hz1 := hi.k.lt
    refine (twin_any wu wu.heap.size A1 k (c - 3) ks ((hmid.below hi.bl).more hz) (Nat.le_refl _) (by omega)).mono ?_
    rintro e w' ⟨KA, kc, he, ho, hb⟩
    exact ⟨KA, kc, he, ⟨hi.r.below hb, hi.k.below hb, (hb.cell (p := ⟨b, off + 1, none⟩) (by show b < _; omega)).trans hi.c, hi.bl.trans (hb.mono hz)⟩, (ho.ownV).mono (by omega)⟩
  have hi0 : GsI w 1 b off p (usW w 0 0 none 0 0 0 1 0 none 0 0 0) := ⟨(clK w 0 0 none 0 0 0).alloc _, usW_k w 0 0 none 0 0 0 1 0 none 0 0 0, ((usW_b w 0 0 none 0 0 0 1 0 none 0 0 0).cell (p := ⟨b, off + 1, none⟩) (by show b < _; omega)).trans hc1, usW_b w 0 0 none 0 0 0 1 0 none 0 0 0⟩
  have HI0 := Lib.hid hi0
  have hbw : b < w.heap.size := by omega
  have HLK := Lib.hid hlk
  clear h hc hmid hk hp hks hA1 hi0 hlk
  have HQ := Lib.hid hq
  clear hq
  go_enter Try.func99, Try.ntmps99
  go_upto_region 15 with (fail)
  go_cut [] (fun wx => ∃ KA kc, GsJ w 1 p 0 KA k kc ks wx)
  case first =>
    have hid := HI0.out.drew
    have g0 := hid.k.cell 0 _ rfl
    have g1 := hid.k.cell 1 _ rfl
    have g2 := hid.k.cell 2 _ rfl
    have g3 := hid.k.cell 3 _ rfl
    have gf1 := hid.k.froz 1 (by simp)
    have gf2 := hid.k.froz 2 (by simp)
    have gc := hid.c
    have gl := hid.k.lt
    go_region_with (first | (with_reducible refine (HT.out _ (by assumption)).mono ?_; rintro e wu ⟨KA, kc, rfl, hi, ho⟩; have g0 := hi.k.cell 0 _ rfl; have g1 := hi.k.cell 1 _ rfl; have g2 := hi.k.cell 2 _ rfl; have g3 := hi.k.cell 3 _ rfl; have gf1 := hi.k.froz 1 (by simp); have gf2 := hi.k.froz 2 (by simp); have gc := hi.c; have gl := hi.k.lt))
    all_goals
      go_wp2_with fail
      go_meet
      exact ⟨KA, kc, hi.put ho⟩
  case rest =>
    obtain ⟨KA, kc, hj⟩ := hcut
    have HJ := Lib.hid hj
    have a0 := hj.kk.cell 0 _ rfl
    have a1 := hj.kk.cell 1 _ rfl
    have a2 := hj.kk.cell 2 _ rfl
    have a3 := hj.kk.cell 3 _ rfl
    have af := hj.kk.froz 3 (by simp)
    have r0 := hj.rr.cell 0 _ rfl
    have r1 := hj.rr.cell 1 _ rfl
    have r2 := hj.rr.cell 2 _ rfl
    have r3 := hj.rr.cell 3 _ rfl
    have e0 := hj.rr.froz 0 (by simp)
    have e1 := hj.rr.froz 1 (by simp)
    have e2 := hj.rr.froz 2 (by simp)
    have e3 := hj.rr.froz 3 (by simp)
    have l7 := hj.kk.lt
    have l8 := hj.rr.lt
    have hcw : wc.cell? ⟨b, off, none⟩ = some (.int .u8 1) := (hj.bl.cell (p := ⟨b, off, none⟩) (by show b < _; omega)).trans hc0
    clear hj HT HI0
    have d5 : ((n : Int) != (3 : Int) + (k : Int) + 8) = false := by have := HQ.out; rw [bne_eq_false_iff_eq]; omega
    have d6 : decide ((4611686018427387903 : Int) < (N : Int)) = true := decide_eq_true (by omega)
    have HN2 := Lib.hid (HNUM.out wc HJ.out.bl)
    go_wp2_with fail
    with_reducible refine (HN2.out).mono ?_
    rintro e wd ⟨rfl, rfl⟩
    go_wp2
    exact gs_fin ⟨1, (p : Nat), 0, ks⟩ false rfl HLK.out _ HJ.out.rr rfl rfl (HJ.out.ow.mono (by omega)) HJ.out.bl
set_option maxHeartbeats 3200000 in
theorem gs_num (w : World) (A : Option Addr) (n c : Nat) (zs : List Nat) (h : Arg w w.heap.size A n c zs) (ho : zs.getD 0 0 = 1) (h3 : 3 + zs.getD 2 0 ≤ n) (hq : n = 3 + zs.getD 2 0 + 8) (hN : gsN zs ≤ 4611686018427387903) : Calls Try.prog 99 #[.slice A n c] w (GsE w (⟨1, (zs.getD 1 0 : Nat), (gsN zs : Nat), gsK zs⟩, true)) := by
  have hk2 := h.lt 2
  have hp1 := h.lt 1
  obtain ⟨k, hk⟩ : ∃ k, zs.getD 2 0 = k := ⟨_, rfl⟩
  obtain ⟨p, hp⟩ : ∃ p, zs.getD 1 0 = p := ⟨_, rfl⟩
  obtain ⟨ks, hks⟩ : ∃ ks, gsK zs = ks := ⟨_, rfl⟩
  have hlk : ks.length = k := by rw [← hks]; unfold gsK; rw [List.length_take, List.length_drop, h.len, hk]; omega
  have hmid := h.mid (at_ := 3) (n := k) (by omega)
  obtain ⟨N, hNN⟩ : ∃ N, gsN zs = N := ⟨_, rfl⟩
  have hrest := h.fromB (k := 3 + k) (by omega)
  have eN : Tk.numV (zs.drop (3 + k)) = N := by rw [← hNN]; unfold gsN; rw [hk]
  have hle := h.le
  have hcap := h.cap
  unfold maxLen at hcap
  obtain ⟨b, off, rfl, hbB, hc⟩ := h.at_ (by omega)
  have hc0 : w.cell? ⟨b, off, none⟩ = some (.int .u8 1) := by have := hc 0 (by omega); rw [ho] at this; simpa using this
  have hc1 : w.cell? ⟨b, off + 1, none⟩ = some (.int .u8 (p : Int)) := by rw [hc 1 (by omega), hp]
  have hc2 : w.cell? ⟨b, off + 2, none⟩ = some (.int .u8 (k : Int)) := by rw [hc 2 (by omega), hk]
  rw [hk] at h3 hk2
  rw [hp] at hp1
  rw [hp, hks]
  rw [hk] at hq
  rw [hNN] at hN
  rw [hNN]
  unfold gsK at hks
  rw [hk] at hks
  rw [hks] at hmid
  have hs : ∀ w', (Instr.slice 22 (.slice (some ⟨b, off, none⟩) n c) (some (.int .i64 3)) (some (.int .i64 ((3 : Int) + (k : Int)))) none).run Try.prog w' = .ok (.slice (frB (some ⟨b, off, none⟩) c 3) k (c - 3)) w' := fun w' => run_midB w' _ n c 3 k (by omega)
  have hs2 : ∀ w', (Instr.slice 22 (.slice (some ⟨b, off, none⟩) n c) (some (.int .i64 ((3 : Int) + (k : Int)))) none none).run Try.prog w' = .ok (.slice (frB (some ⟨b, off, none⟩) c (3 + k)) 8 (c - (3 + k))) w' := fun w' => by
    have := run_fromB2 w' (some ⟨b, off, none⟩) n c (3 + k) (by omega)
    rw [show n - (3 + k) = 8 by omega] at this
    exact this
  obtain ⟨A2, hA2⟩ : ∃ A2, frB (some ⟨b, off, none⟩) c (3 + k) = A2 := ⟨_, rfl⟩
  rw [hA2] at hrest hs2
  rw [show n - (3 + k) = 8 by omega] at hrest
  have HNUM : Hid (∀ w', Below w.heap.size w w' → Calls Try.prog 76 #[.slice A2 8 (c - (3 + k))] w' fun e w'' => e = .returned (.int .u64 (N : Int)) ∧ w' = w'') := Lib.hid fun w' hb => by
    rw [← eN]
    exact number7_any w' w.heap.size _ 8 _ _ (by omega) (hrest.below hb)
  clear hrest eN hA2 hNN
  obtain ⟨A1, hA1⟩ : ∃ A1, frB (some ⟨b, off, none⟩) c 3 = A1 := ⟨_, rfl⟩
  rw [hA1] at hmid hs
  have hn0 : ((n : Int) == 0) = false := beq_eq_false_iff_ne.2 (by omega)
  have d3 : decide ((n : Int) < 3) = false := decide_eq_false (by omega)
  have d4 : decide ((n : Int) < 3 + (k : Int)) = false := decide_eq_false (by omega)
  have hw1 : IntKind.i64.wrap (p : Int) = (p : Int) := IntWalk.i64_in _ (by omega)
  have hw2 : IntKind.i64.wrap (k : Int) = (k : Int) := IntWalk.i64_in _ (by omega)
  have HT : Hid (∀ wu, GsI w 1 b off p wu → Calls Try.prog 77 #[.slice A1 k (c - 3)] wu fun e w' => ∃ KA kc, e = .returned (.slice KA k kc) ∧ GsI w 1 b off p w' ∧ OwnV w' (w.heap.size + 2) KA k kc (ks.map V8)) := Lib.hid fun wu hi => by
    have hz := hi.bl.size
    have hz1 := hi.k.lt
    refine (twin_any wu wu.heap.size A1 k (c - 3) ks ((hmid.below hi.bl).more hz) (Nat.le_refl _) (by omega)).mono ?_
    rintro e w' ⟨KA, kc, he, ho, hb⟩
    exact ⟨KA, kc, he, ⟨hi.r.below hb, hi.k.below hb, (hb.cell (p := ⟨b, off + 1, none⟩) (by show b < _; omega)).trans hi.c, hi.bl.trans (hb.mono hz)⟩, (ho.ownV).mono (by omega)⟩
  have hi0 : GsI w 1 b off p (usW w 0 0 none 0 0 0 1 0 none 0 0 0) := ⟨(clK w 0 0 none 0 0 0).alloc _, usW_k w 0 0 none 0 0 0 1 0 none 0 0 0, ((usW_b w 0 0 none 0 0 0 1 0 none 0 0 0).cell (p := ⟨b, off + 1, none⟩) (by show b < _; omega)).trans hc1, usW_b w 0 0 none 0 0 0 1 0 none 0 0 0⟩
  have HI0 := Lib.hid hi0
  have hbw : b < w.heap.size := by omega
  have HLK := Lib.hid hlk
  clear h hc hmid hk hp hks hA1 hi0 hlk
  have HQ := Lib.hid hq
  clear hq
  go_enter Try.func99, Try.ntmps99
  go_upto_region 15 with (fail)
  go_cut [] (fun wx => ∃ KA kc, GsJ w 1 p 0 KA k kc ks wx)
  case first =>
    have hid := HI0.out.drew
    have g0 := hid.k.cell 0 _ rfl
    have g1 := hid.k.cell 1 _ rfl
    have g2 := hid.k.cell 2 _ rfl
    have g3 := hid.k.cell 3 _ rfl
    have gf1 := hid.k.froz 1 (by simp)
    have gf2 := hid.k.froz 2 (by simp)
    have gc := hid.c
    have gl := hid.k.lt
    go_region_with (first | (with_reducible refine (HT.out _ (by assumption)).mono ?_; rintro e wu ⟨KA, kc, rfl, hi, ho⟩; have g0 := hi.k.cell 0 _ rfl; have g1 := hi.k.cell 1 _ rfl; have g2 := hi.k.cell 2 _ rfl; have g3 := hi.k.cell 3 _ rfl; have gf1 := hi.k.froz 1 (by simp); have gf2 := hi.k.froz 2 (by simp); have gc := hi.c; have gl := hi.k.lt))
    all_goals
      go_wp2_with fail
      go_meet
      exact ⟨KA, kc, hi.put ho⟩
  case rest =>
    obtain ⟨KA, kc, hj⟩ := hcut
    have HJ := Lib.hid hj
    have a0 := hj.kk.cell 0 _ rfl
    have a1 := hj.kk.cell 1 _ rfl
    have a2 := hj.kk.cell 2 _ rfl
    have a3 := hj.kk.cell 3 _ rfl
    have af := hj.kk.froz 3 (by simp)
    have r0 := hj.rr.cell 0 _ rfl
    have r1 := hj.rr.cell 1 _ rfl
    have r2 := hj.rr.cell 2 _ rfl
    have r3 := hj.rr.cell 3 _ rfl
    have e0 := hj.rr.froz 0 (by simp)
    have e1 := hj.rr.froz 1 (by simp)
    have e2 := hj.rr.froz 2 (by simp)
    have e3 := hj.rr.froz 3 (by simp)
    have l7 := hj.kk.lt
    have l8 := hj.rr.lt
    have hcw : wc.cell? ⟨b, off, none⟩ = some (.int .u8 1) := (hj.bl.cell (p := ⟨b, off, none⟩) (by show b < _; omega)).trans hc0
    clear hj HT HI0
    have d5 : ((n : Int) != (3 : Int) + (k : Int) + 8) = false := by have := HQ.out; rw [bne_eq_false_iff_eq]; omega
    have d6 : decide ((4611686018427387903 : Int) < (N : Int)) = false := decide_eq_false (by omega)
    have hwN : IntKind.i64.wrap (N : Int) = (N : Int) := IntWalk.i64_in _ (by omega)
    have HN2 := Lib.hid (HNUM.out wc HJ.out.bl)
    go_wp2_with fail
    with_reducible refine (HN2.out).mono ?_
    rintro e wd ⟨rfl, rfl⟩
    go_wp2_with fail
    with_reducible refine (HN2.out).mono ?_
    rintro e wd ⟨rfl, rfl⟩
    have f : Off [w.heap.size + 1] wc (wc.setCell ⟨w.heap.size + 1, 3, none⟩ (.int .i64 (N : Int))) := (Off.refl _ _).setCell (p := ⟨w.heap.size + 1, 3, none⟩) (by simp) _
    have HR2 := Lib.hid (HJ.out.rr.off f (by simp))
    have HO2 := Lib.hid (HJ.out.ow.off f (fun y hy => by have := (HJ.out.ow.lt y hy).1; simp; omega))
    have HB2 := Lib.hid (HJ.out.bl.setCell (p := ⟨w.heap.size + 1, 3, none⟩) (by show w.heap.size ≤ w.heap.size + 1; omega) (.int .i64 (N : Int)))
    clear f
    go_wp2
    exact gs_fin ⟨1, (p : Nat), (N : Nat), ks⟩ true rfl HLK.out _ HR2.out rfl rfl (HO2.out.mono (by omega)) HB2.out
end Go.Proofs.Ytndgladfcogiiaa


/- Contract: the document's ReadRequest. -/
namespace Go.Proofs.Ytndgladfcogiiaa
open Go.RowKit
set_option maxRecDepth 100000
set_option linter.unusedVariables false

theorem guess_any (w : World) (A : Option Addr) (n c : Nat) (zs : List Nat) (h : Arg w w.heap.size A n c zs) (hn : n ≤ 4096) : Calls Try.prog 99 #[.slice A n c] w (GsE w (gsV zs)) := by
  have hl := h.len
  by_cases h0 : zs.length = 0
  · have e : gsV zs = (ClV.zero, false) := by unfold gsV; rw [if_pos h0]
    rw [e]; exact gs_empty w A n c (by omega)
  by_cases h3 : zs.getD 0 0 = 3
  · by_cases hd : decOk (zs.drop 1)
    · have e : gsV zs = (⟨3, ((zs.drop 1).getD 2 0 : Nat), (dSer (zs.drop 1) : Nat), dKey (zs.drop 1)⟩, true) := by unfold gsV; rw [if_neg h0, if_pos h3, if_pos hd]
      rw [e]
      refine gs_3 w A n c zs h h3 (by omega) ((zs.drop 1).getD 2 0 : Nat) (dSer (zs.drop 1) : Nat) 0 ((zs.drop 1).getD 3 0) (dKey (zs.drop 1)) true rfl ?_ _ rfl ?_
      · have := hd.1
        simp only [dKey, List.length_take, List.length_drop] at this ⊢
        omega
      · intro wx Ax cx ha
        refine (docDecode_good wx _ Ax (n - 1) cx _ ha (Nat.le_refl _) hd).mono ?_
        rintro e w' ⟨KA, kc, he, ho, hb⟩
        exact ⟨KA, kc, he, ho.ownV, hb⟩
    · have e : gsV zs = (⟨3, 0, 0, []⟩, false) := by unfold gsV; rw [if_neg h0, if_pos h3, if_neg hd]
      rw [e]
      refine gs_3 w A n c zs h h3 (by omega) 0 0 3 0 [] false rfl rfl _ rfl ?_
      intro wx Ax cx ha
      refine (docDecode_bad wx _ Ax (n - 1) cx _ ha (Nat.le_refl _) (by omega) hd).mono ?_
      rintro e w' ⟨he, hb⟩
      exact ⟨none, 0, he, OwnV.nil _ _, hb⟩
  by_cases h1 : zs.getD 0 0 = 1
  · by_cases hs : zs.length < 3 ∨ zs.length < 3 + zs.getD 2 0
    · have e : gsV zs = (⟨1, 0, 0, []⟩, false) := by unfold gsV; rw [if_neg h0, if_neg h3, if_pos (.inl h1), if_pos hs, h1]
      rw [e]; exact gs_short1 w A n c zs h h1 (by omega) (by omega)
    by_cases hq : zs.length ≠ 3 + zs.getD 2 0 + 8
    · have e : gsV zs = (⟨1, (zs.getD 1 0 : Nat), 0, gsK zs⟩, false) := by unfold gsV; rw [if_neg h0, if_neg h3, if_pos (.inl h1), if_neg hs, if_pos h1, if_pos (.inl hq)]
      rw [e]; exact gs_len w A n c zs h h1 (by omega) (by omega)
    by_cases hm : 4611686018427387903 < gsN zs
    · have e : gsV zs = (⟨1, (zs.getD 1 0 : Nat), 0, gsK zs⟩, false) := by unfold gsV; rw [if_neg h0, if_neg h3, if_pos (.inl h1), if_neg hs, if_pos h1, if_pos (.inr hm)]
      rw [e]; exact gs_big w A n c zs h h1 (by omega) (by omega) hm
    · have e : gsV zs = (⟨1, (zs.getD 1 0 : Nat), (gsN zs : Nat), gsK zs⟩, true) := by unfold gsV; rw [if_neg h0, if_neg h3, if_pos (.inl h1), if_neg hs, if_pos h1, if_neg (by omega)]
      rw [e]; exact gs_num w A n c zs h h1 (by omega) (by omega) (by omega)
  by_cases h2 : zs.getD 0 0 = 2
  · by_cases hs : zs.length < 3 ∨ zs.length < 3 + zs.getD 2 0
    · have e : gsV zs = (⟨2, 0, 0, []⟩, false) := by unfold gsV; rw [if_neg h0, if_neg h3, if_pos (.inr (.inl h2)), if_pos hs, h2]
      rw [e]; exact gs_short2 w A n c zs h h2 (by omega) (by omega)
    · have e : gsV zs = (⟨2, (zs.getD 1 0 : Nat), 0, gsK zs⟩, true) := by unfold gsV; rw [if_neg h0, if_neg h3, if_pos (.inr (.inl h2)), if_neg hs, if_neg h1, h2]
      rw [e]; exact gs_key2 w A n c zs h h2 (by omega)
  by_cases h4 : zs.getD 0 0 = 4
  · by_cases hs : zs.length < 3 ∨ zs.length < 3 + zs.getD 2 0
    · have e : gsV zs = (⟨4, 0, 0, []⟩, false) := by unfold gsV; rw [if_neg h0, if_neg h3, if_pos (.inr (.inr h4)), if_pos hs, h4]
      rw [e]; exact gs_short4 w A n c zs h h4 (by omega) (by omega)
    · have e : gsV zs = (⟨4, (zs.getD 1 0 : Nat), 0, gsK zs⟩, true) := by unfold gsV; rw [if_neg h0, if_neg h3, if_pos (.inr (.inr h4)), if_neg hs, if_neg h1, h4]
      rw [e]; exact gs_key4 w A n c zs h h4 (by omega)
  have e : gsV zs = (⟨zs.getD 0 0, 0, 0, []⟩, decide (zs.getD 0 0 = 5) || decide (zs.getD 0 0 = 6)) := by unfold gsV; rw [if_neg h0, if_neg h3, if_neg (by omega)]
  rw [e]
  exact gs_other w A n c _ zs h rfl (by omega) h1 h2 h3 h4 _ rfl

theorem gsV_byte {zs : List Nat} (hb : ∀ d ∈ zs, d < 256) {x : ClV} {b : Bool} (h : gsV zs = (x, b)) : ∀ d ∈ x.ks, d < 256 := by
  have e : x = (gsV zs).1 := by rw [h]
  have h1 : ∀ (l : List Nat) (a b : Nat), (∀ d ∈ l, d < 256) → ∀ d ∈ (l.drop a).take b, d < 256 := fun l a b hl d hd => hl d (List.mem_of_mem_drop (List.mem_of_mem_take hd))
  have h2 : ∀ d ∈ zs.drop 1, d < 256 := fun d hd => hb d (List.mem_of_mem_drop hd)
  rw [e]
  unfold gsV
  repeat' split
  all_goals (try (intro d hd; simp [ClV.zero] at hd; done))
  · exact h1 _ _ _ h2
  all_goals exact h1 _ _ _ hb
theorem drr_ret {w wf : World} (y : ClV × Int) {m kc : Nat} {KA : Option Addr} (hm : y.1.ks.length = m) (tmps : Array Value) (hb : BlkL wf w.heap.size (clB y.1.o y.1.p KA m kc y.1.s)) (t2 : tmps[2]? = some (.pointer (some ⟨w.heap.size, 0, none⟩))) (t3 : tmps[3]? = some (.int .i64 y.2))
    (hk : OwnV wf w.heap.size KA m kc (y.1.ks.map V8)) (ho : Below w.heap.size w wf) : bodyPost Try.prog Try.f49 (ClX w y) Exit.ret { tmps := tmps, defers := [] } wf := by
  subst hm
  have c0 := hb.cell 0 _ rfl
  have c1 := hb.cell 1 _ rfl
  have c2 := hb.cell 2 _ rfl
  have c3 := hb.cell 3 _ rfl
  exact bodyPost_ret (v := .tuple #[ClA y.1.o y.1.p KA y.1.ks.length kc y.1.s, .int .i64 y.2]) (by simp [results, Try.results49, go_sem, t2, t3, c0, c1, c2, c3]) rfl ⟨KA, kc, rfl, hk, ho⟩
theorem drr_fin {w wf : World} (y : ClV × Int) (x : ClV) (f : Int) (hy : y = (x, f)) {m kc : Nat} {KA : Option Addr} (hm : x.ks.length = m) {q0 q1 q2 q3 : Value} (tmps : Array Value) (hb : BlkL wf w.heap.size [q0, q1, q2, q3]) (t2 : tmps[2]? = some (.pointer (some ⟨w.heap.size, 0, none⟩))) (t3 : tmps[3]? = some (.int .i64 f))
    (hk : OwnV wf (w.heap.size + 1) KA m kc (x.ks.map V8)) (ho : Below w.heap.size w wf) : bodyPost Try.prog Try.f49 (ClX w y) Exit.ret { tmps := tmps, defers := [] } (put4w wf w.heap.size x.o x.p (.slice KA m kc) x.s) := by
  subst hy
  have f4 : Off [w.heap.size] wf (put4w wf w.heap.size x.o x.p (.slice KA m kc) x.s) := ((((Off.refl [w.heap.size] wf).setCell (p := ⟨w.heap.size, 0, none⟩) (by simp) _).setCell (p := ⟨w.heap.size, 1, none⟩) (by simp) _).setCell (p := ⟨w.heap.size, 2, none⟩) (by simp) _).setCell (p := ⟨w.heap.size, 3, none⟩) (by simp) _
  refine drr_ret (x, f) hm tmps (hb.put4 _ _ _ _) t2 t3 ((hk.off f4 (fun z hz hs => by simp at hs; subst hs; have := (hk.lt _ hz).1; omega)).mono (by omega)) ?_
  exact (((ho.setCell (p := ⟨w.heap.size, 0, none⟩) (Nat.le_refl _) _).setCell (p := ⟨w.heap.size, 1, none⟩) (Nat.le_refl _) _).setCell (p := ⟨w.heap.size, 2, none⟩) (Nat.le_refl _) _).setCell (p := ⟨w.heap.size, 3, none⟩) (Nat.le_refl _) _
theorem docReadRequest_long (w : World) (A : Option Addr) (n c : Nat) (hn : 4096 < n) : Calls Try.prog 49 #[.slice A n c] w (ClX w (ClV.zero, 2)) := by
  have d1 : decide ((4096 : Int) < (n : Int)) = true := decide_eq_true (by omega)
  go_enter Try.func49, Try.ntmps49
  go_wp2
  exact drr_ret (ClV.zero, 2) rfl _ (clK w 0 0 none 0 0 0) rfl rfl (OwnV.nil _ _) (clBl w 0 0 none 0 0 0)
set_option maxHeartbeats 1600000 in
theorem docReadRequest_m (w : World) (A : Option Addr) (n c : Nat) (zs : List Nat) (h : Arg w w.heap.size A n c zs) (hn : n ≤ 4096) (x : ClV) (b : Bool) (hg : gsV zs = (x, b)) (f : Int) (hf : rqC x.o x.p x.s x.ks.length = f) (y : ClV × Int) (hy : drV zs = y) : Calls Try.prog 49 #[.slice A n c] w (ClX w y) := by
  have hl := h.len
  have hl2 : ¬ 4096 < zs.length := by omega
  have d1 : decide ((4096 : Int) < (n : Int)) = false := decide_eq_false (by omega)
  have HG : Hid (Calls Try.prog 99 #[.slice A n c] (zW w) (GsE (zW w) (x, b))) := Lib.hid (by rw [← hg]; exact guess_any (zW w) A n c zs ((h.below (clBl w 0 0 none 0 0 0)).more (by simp)) hn)
  obtain ⟨m, hm⟩ : ∃ m, x.ks.length = m := ⟨_, rfl⟩
  have HM := Lib.hid hm
  have HA := Lib.hid h
  clear h
  go_enter Try.func49, Try.ntmps49
  go_wp2_with fail
  with_reducible refine (HG.out).mono ?_
  rintro e w1 ⟨KA, kc, rfl, ho1, hb1⟩
  dsimp only at ho1
  rw [show (zW w).heap.size = w.heap.size + 1 by simp] at ho1 hb1
  rw [hm] at ho1 hf
  dsimp only
  rw [hm]
  have z1 := hb1.size
  simp only [World.size_alloc] at z1
  have B1 : Below w.heap.size w w1 := (clBl w 0 0 none 0 0 0).trans (hb1.mono (by omega))
  have hr1 : BlkL w1 w.heap.size [.int .u8 0, .int .i64 0, .slice none 0 0, .int .i64 0] := (clK w 0 0 none 0 0 0).below (by simpa using hb1)
  have B2 := Lib.hid (B1.alloc (by omega) (.cells #[.int .u8 x.o, .int .i64 x.p, .slice KA m kc, .int .i64 x.s] 71))
  have R2 := Lib.hid (hr1.alloc (.cells #[.int .u8 x.o, .int .i64 x.p, .slice KA m kc, .int .i64 x.s] 71))
  have K2 : Hid (BlkL (w1.alloc (.cells #[.int .u8 x.o, .int .i64 x.p, .slice KA m kc, .int .i64 x.s] 71)) w1.heap.size (clB x.o x.p KA m kc x.s)) := Lib.hid (clK w1 x.o x.p KA m kc x.s)
  have O2 := Lib.hid (ho1.below ((Below.refl _ _).alloc (by omega) (.cells #[.int .u8 x.o, .int .i64 x.p, .slice KA m kc, .int .i64 x.s] 71)))
  have hne : w1.heap.size ≠ w.heap.size := by omega
  have hlt : w.heap.size < w1.heap.size := by omega
  clear ho1 hb1 B1 hr1 HG
  go_upto_region 4 with (fail)
  obtain ⟨xb, hxb⟩ : ∃ xb, xb = w1.heap.size := ⟨_, rfl⟩
  generalize w1.alloc (.cells #[.int .u8 x.o, .int .i64 x.p, .slice KA m kc, .int .i64 x.s] 71) = w2 at *
  rw [← hxb] at K2 hne hlt z1
  rw [← hxb]
  clear hxb
  have hz2 := B2.out.size
  cases b with
  | false =>
    have HY : Hid (y = (ClV.zero, 3)) := Lib.hid (by rw [← hy]; exact drV_no hl2 hg)
    have r0 := R2.out.cell 0 _ rfl
    have r1 := R2.out.cell 1 _ rfl
    have r2 := R2.out.cell 2 _ rfl
    have r3 := R2.out.cell 3 _ rfl
    have e0 := R2.out.froz 0 (by simp)
    have e1 := R2.out.froz 1 (by simp)
    have e2 := R2.out.froz 2 (by simp)
    have e3 := R2.out.froz 3 (by simp)
    have l8 := R2.out.lt
    go_wp2
    exact drr_fin y ClV.zero 3 HY.out rfl _ R2.out rfl rfl (OwnV.nil _ _) B2.out
  | true =>
    have hyy := drV_yes hl2 hg
    rw [hy] at hyy
    have HYY := Lib.hid hyy
    clear hyy
    have hkx := K2.out
    have k0 := hkx.cell 0 _ rfl
    have k1 := hkx.cell 1 _ rfl
    have k2 := hkx.cell 2 _ rfl
    have k3 := hkx.cell 3 _ rfl
    have kl := hkx.lt
    have hbyte : ∀ d ∈ x.ks, d < 256 := gsV_byte (fun d hd => HA.out.byte d hd) hg
    have HD := Lib.hid (docRequest_any w2 _ x.o x.p x.s KA m kc x.ks (O2.out.arg' hbyte) (Nat.le_refl _))
    have HF := Lib.hid hf
    clear hkx hbyte hf
    go_wp2_with fail
    with_reducible refine (HD.out).mono ?_
    rintro e w3 ⟨XA, xn, xc, rfl, hq3, hb3⟩
    rw [hm, HF.out] at hq3
    rw [hm, HF.out]
    have R3 := Lib.hid (R2.out.below hb3)
    have K3 := Lib.hid (K2.out.below hb3)
    have O3 := Lib.hid (O2.out.below (hb3.mono (by omega)))
    have B3 := Lib.hid (B2.out.trans (hb3.mono (by omega)))
    have Q3 := Lib.hid hq3
    clear k0 k1 k2 k3 kl hq3 hb3 R2 K2 O2 B2 HD
    by_cases hf0 : f = 0
    · subst hf0
      have HF2 : rqC x.o x.p x.s x.ks.length = 0 := by rw [hm]; exact HF.out
      obtain ⟨r, hr⟩ : ∃ r, decide (zs = rqB x.o x.p x.s x.ks) = r := ⟨_, rfl⟩
      have HS := Lib.hid (same_any w3 w.heap.size w3.heap.size A XA n c xn xc zs _ r hr (HA.out.below B3.out) (by have := Q3.out; rwa [if_pos rfl] at this))
      cases r with
      | false =>
        have HY : Hid (y = (ClV.zero, 3)) := Lib.hid (by rw [HYY.out, if_neg (fun hh => (of_decide_eq_false hr) hh.2.symm)])
        clear hr HF2 HYY
        go_wp2_with fail
        with_reducible refine (HS.out).mono ?_
        rintro e w4 ⟨rfl, t, rfl⟩
        have R2 := Lib.hid (R3.out.drewN t)
        have B2 := Lib.hid (below_drewN B3.out t)
        have r0 := R3.out.cell 0 _ rfl
        have r1 := R3.out.cell 1 _ rfl
        have r2 := R3.out.cell 2 _ rfl
        have r3 := R3.out.cell 3 _ rfl
        have e0 := R3.out.froz 0 (by simp)
        have e1 := R3.out.froz 1 (by simp)
        have e2 := R3.out.froz 2 (by simp)
        have e3 := R3.out.froz 3 (by simp)
        have l8 := R3.out.lt
        go_wp2
        exact drr_fin y ClV.zero 3 HY.out rfl _ R2.out rfl rfl (OwnV.nil _ _) B2.out
      | true =>
        have HY : Hid (y = (x, 0)) := Lib.hid (by rw [HYY.out, if_pos ⟨HF2, (of_decide_eq_true hr).symm⟩])
        clear hr HF2 HYY
        go_wp2_with fail
        with_reducible refine (HS.out).mono ?_
        rintro e w4 ⟨rfl, t, rfl⟩
        have R2 := Lib.hid (R3.out.drewN t)
        have K2 := Lib.hid (K3.out.drewN t)
        have O2 := Lib.hid (O3.out.below (below_drewN (Below.refl _ _) t))
        have B2 := Lib.hid (below_drewN B3.out t)
        have k0 := K3.out.cell 0 _ rfl
        have k1 := K3.out.cell 1 _ rfl
        have k2 := K3.out.cell 2 _ rfl
        have k3 := K3.out.cell 3 _ rfl
        have kl := K3.out.lt
        have r0 := R3.out.cell 0 _ rfl
        have r1 := R3.out.cell 1 _ rfl
        have r2 := R3.out.cell 2 _ rfl
        have r3 := R3.out.cell 3 _ rfl
        have e0 := R3.out.froz 0 (by simp)
        have e1 := R3.out.froz 1 (by simp)
        have e2 := R3.out.froz 2 (by simp)
        have e3 := R3.out.froz 3 (by simp)
        have l8 := R3.out.lt
        go_wp2
        exact drr_fin y x 0 HY.out hm _ R2.out rfl rfl O2.out B2.out
    · have HY : Hid (y = (ClV.zero, 3)) := Lib.hid (by rw [HYY.out, if_neg (fun hh => hf0 (by rw [← HF.out, ← hm]; exact hh.1))])
      have hf1 : (f != 0) = true := by simpa using hf0
      have R2 := R3
      have B2 := B3
      clear HYY
      have r0 := R2.out.cell 0 _ rfl
      have r1 := R2.out.cell 1 _ rfl
      have r2 := R2.out.cell 2 _ rfl
      have r3 := R2.out.cell 3 _ rfl
      have e0 := R2.out.froz 0 (by simp)
      have e1 := R2.out.froz 1 (by simp)
      have e2 := R2.out.froz 2 (by simp)
      have e3 := R2.out.froz 3 (by simp)
      have l8 := R2.out.lt
      go_wp2
      exact drr_fin y ClV.zero 3 HY.out rfl _ R2.out rfl rfl (OwnV.nil _ _) B2.out
theorem docReadRequest_any (w : World) (A : Option Addr) (n c : Nat) (zs : List Nat) (h : Arg w w.heap.size A n c zs) : Calls Try.prog 49 #[.slice A n c] w (ClX w (rqV zs)) := by
  have hl := h.len
  rw [← drV_rqV (fun d hd => h.byte d hd)]
  by_cases hn : 4096 < n
  · have e : drV zs = (ClV.zero, 2) := by unfold drV; rw [if_pos (by omega)]
    rw [e]; exact docReadRequest_long w A n c hn
  · obtain ⟨⟨x, b⟩, hg⟩ : ∃ z, gsV zs = z := ⟨_, rfl⟩
    exact docReadRequest_m w A n c zs h (by omega) x b hg _ rfl _ rfl
end Go.Proofs.Ytndgladfcogiiaa


/- Contract: Request, with its bytes told as new memory. -/
namespace Go.Proofs.Ytndgladfcogiiaa
open Go.RowKit
set_option maxRecDepth 100000
set_option linter.unusedVariables false

/-- How Request ends: its bytes are new memory. -/
def ReqF (w : World) (o : Nat) (p s : Int) (zs : List Nat) (e : Ending) (w' : World) : Prop :=
  ∃ XA xn xc, e = .returned (.tuple #[.slice XA xn xc, .int .i64 (rqC o p s zs.length)]) ∧ OwnV w' w.heap.size XA xn xc ((if rqC o p s zs.length = 0 then rqB o p s zs else []).map V8) ∧ Below w.heap.size w w'
theorem reqF_no {w w' : World} {o : Nat} {p s : Int} {zs : List Nat} {e : Ending} (f : Int) (hf : rqC o p s zs.length = f) (h0 : f ≠ 0) (h : ValEnd w (.tuple #[.slice none 0 0, .int .i64 f]) e w') : ReqF w o p s zs e w' := by
  refine ⟨none, 0, 0, by rw [hf]; exact h.1, ?_, h.2⟩
  rw [if_neg (by rw [hf]; exact h0)]
  exact OwnV.nil _ _
theorem reqF_yes {w w' : World} {o : Nat} {p s : Int} {zs bs : List Nat} {m : Nat} {e : Ending} (hf : rqC o p s zs.length = 0) (hb : rqB o p s zs = bs) (h : NewB w bs m e w') : ReqF w o p s zs e w' := by
  obtain ⟨A, c, rfl, ho, hbl⟩ := h
  refine ⟨A, m, c, by rw [hf], ?_, hbl⟩
  rw [if_pos hf, hb]
  exact ho.ownV
theorem reqF_up {w w1 w' : World} {o : Nat} {p s : Int} {zs : List Nat} {e : Ending} (hb : Below w.heap.size w w1) (h : ReqF w1 o p s zs e w') : ReqF w o p s zs e w' := by
  obtain ⟨XA, xn, xc, h1, h2, h3⟩ := h
  exact ⟨XA, xn, xc, h1, h2.mono hb.size, hb.trans (h3.mono hb.size)⟩

section
variable (w : World) (B : Nat) (p s : Int) (A : Option Addr) (n c : Nat) (zs : List Nat) (h : Arg w B A n c zs) (hB : B ≤ w.heap.size)
include h hB
theorem keyed_anyF (o : Nat) (ho : o = 2 ∨ o = 4) : Calls Try.prog 93 #[ClA o p A n c s] w (ReqF w o p s zs) := by
  have hn := h.len
  cases hp : polB p with
  | false => exact (keyed_bad w o p s A n c (polB_false hp)).mono fun e w' he => reqF_no 1 (by unfold rqC; rw [if_neg (by omega), if_neg (by omega), if_pos (.inl hp)]) (by omega) he
  | true =>
    have hpp := polB_true hp
    obtain ⟨q, rfl⟩ : ∃ q : Nat, p = (q : Int) := ⟨p.toNat, by omega⟩
    have hx : ¬ (polB (q : Int) = false ∨ (o = 1 ∧ tkB s = false) ∨ (o = 3 ∧ serB s = false)) := by
      rw [hp]
      rintro (h | ⟨h, _⟩ | ⟨h, _⟩)
      · simp at h
      · omega
      · omega
    by_cases hl : 255 < n
    · exact (keyed_long w o q s A n c (by omega) (by omega) hl).mono fun e w' he => reqF_no 2 (by unfold rqC; rw [if_neg (by omega), if_neg (by omega), if_neg hx, if_pos (by omega)]) (by omega) he
    · exact (keyed_good w B o q s A n c zs h hB (by omega) (by omega) (by omega)).mono fun e w' he => reqF_yes (by unfold rqC; rw [if_neg (by omega), if_neg (by omega), if_neg hx, if_neg (by omega)]) (by unfold rqB; rw [if_neg (by omega), if_neg (by omega), if_pos ho, hn]; rfl) he
theorem allow_anyF : Calls Try.prog 92 #[ClA 1 p A n c s] w (ReqF w 1 p s zs) := by
  have hn := h.len
  have hb0 := clBl w 1 p A n c s
  cases hs : tkB s with
  | false => exact (allow_no w 1 p s A n c hs).mono fun e w' he => reqF_no 1 (by unfold rqC; rw [if_neg (by omega), if_neg (by omega), if_pos (.inr (.inl ⟨rfl, hs⟩))]) (by omega) he
  | true =>
  have hss := tkB_true hs
  cases hp : polB p with
  | false => exact (allow_err w 1 p s A n c 1 hs (.inl rfl) (keyed_bad _ 1 p s A n c (polB_false hp))).mono fun e w' he => reqF_no 1 (by unfold rqC; rw [if_neg (by omega), if_neg (by omega), if_pos (.inl hp)]) (by omega) he
  | true =>
    have hpp := polB_true hp
    obtain ⟨q, rfl⟩ : ∃ q : Nat, p = (q : Int) := ⟨p.toNat, by omega⟩
    obtain ⟨t, rfl⟩ : ∃ q : Nat, s = (q : Int) := ⟨s.toNat, by omega⟩
    have hx : ¬ (polB (q : Int) = false ∨ (1 = 1 ∧ tkB (t : Int) = false) ∨ (1 = 3 ∧ serB (t : Int) = false)) := by rw [hp, hs]; simp
    by_cases hl : 255 < n
    · exact (allow_err w 1 q t A n c 2 hs (.inr rfl) (keyed_long _ 1 q t A n c (by omega) (by omega) hl)).mono fun e w' he => reqF_no 2 (by unfold rqC; rw [if_neg (by omega), if_neg (by omega), if_neg hx, if_pos (by omega)]) (by omega) he
    · exact (allow_good w B 1 q t A n c zs h hB (by omega) (by omega) (by omega) (by omega)).mono fun e w' he => reqF_yes (by unfold rqC; rw [if_neg (by omega), if_neg (by omega), if_neg hx, if_neg (by omega)]) (by unfold rqB; rw [if_pos rfl, hn]; rfl) he
theorem release_anyF : Calls Try.prog 94 #[ClA 3 p A n c s] w (ReqF w 3 p s zs) := by
  have hn := h.len
  by_cases hb : polB p = false ∨ serB s = false
  · exact (release_err w 3 p s A n c 1 (.inl rfl) (encode_bad _ p s A n c (Lib.hid (by
      show (polB p && serB s) = false
      rcases hb with hb | hb <;> rw [hb] <;> simp)))).mono fun e w' he => reqF_no 1 (by unfold rqC; rw [if_neg (by omega), if_neg (by omega), if_pos (by rcases hb with hb | hb; exact .inl hb; exact .inr (.inr ⟨rfl, hb⟩))]) (by omega) he
  · have hp : polB p = true := by cases h1 : polB p <;> simp_all
    have hs : serB s = true := by cases h1 : serB s <;> simp_all
    have hpp := polB_true hp
    have hss := serB_true hs
    obtain ⟨q, rfl⟩ : ∃ q : Nat, p = (q : Int) := ⟨p.toNat, by omega⟩
    obtain ⟨t, rfl⟩ : ∃ q : Nat, s = (q : Int) := ⟨s.toNat, by omega⟩
    have hx : ¬ (polB (q : Int) = false ∨ (3 = 1 ∧ tkB (t : Int) = false) ∨ (3 = 3 ∧ serB (t : Int) = false)) := by rw [hp, hs]; simp
    by_cases hl : 255 < n
    · exact (release_err w 3 q t A n c 2 (.inr rfl) (encode_long _ q t A n c (Lib.hid hp) (Lib.hid hs) hl)).mono fun e w' he => reqF_no 2 (by unfold rqC; rw [if_neg (by omega), if_neg (by omega), if_neg hx, if_pos (by omega)]) (by omega) he
    · exact (release_good w B 3 q t A n c zs h hB (by omega) (by omega) (by omega) (by omega) (by omega)).mono fun e w' he => reqF_yes (by unfold rqC; rw [if_neg (by omega), if_neg (by omega), if_neg hx, if_neg (by omega)]) (by unfold rqB; rw [if_neg (by omega), if_pos rfl]; rfl) he
end

section
variable (w : World) (B : Nat) (p s : Int) (A : Option Addr) (n c : Nat) (zs : List Nat) (h : Arg w B A n c zs) (hB : B ≤ w.heap.size)
include h hB
theorem request_1F : Calls Try.prog 44 #[ClA 1 p A n c s] w (ReqF w 1 p s zs) := by
  have K := clK w 1 p A n c s
  have HB := Lib.hid (clBl w 1 p A n c s)
  have c0 := K.cell 0 _ rfl
  have c1 := K.cell 1 _ rfl
  have c2 := K.cell 2 _ rfl
  have c3 := K.cell 3 _ rfl
  have HC := Lib.hid (allow_anyF (clW w 1 p A n c s) B p s A n c zs (h.below ((clBl w 1 p A n c s).mono hB)) (by simp; omega))
  clear K h
  go_enter Try.func44, Try.ntmps44
  go_wp2_with fail
  with_reducible refine (HC.out).mono ?_
  rintro e w1 h1
  have H1 := Lib.hid (reqF_up HB.out h1)
  obtain ⟨XA, xn, xc, rfl, h2, h3⟩ := h1
  clear h2 h3
  go_wp2
  go_ret2
  exact H1.out
theorem request_2F : Calls Try.prog 44 #[ClA 2 p A n c s] w (ReqF w 2 p s zs) := by
  have K := clK w 2 p A n c s
  have HB := Lib.hid (clBl w 2 p A n c s)
  have c0 := K.cell 0 _ rfl
  have c1 := K.cell 1 _ rfl
  have c2 := K.cell 2 _ rfl
  have c3 := K.cell 3 _ rfl
  have HC : Hid (Calls Try.prog 93 #[ClA 2 p A n c s] (clW w 2 p A n c s) (ReqF (clW w 2 p A n c s) 2 p s zs)) := Lib.hid (keyed_anyF (clW w 2 p A n c s) B p s A n c zs (h.below ((clBl w 2 p A n c s).mono hB)) (by simp; omega) 2 (.inl rfl))
  clear K h
  go_enter Try.func44, Try.ntmps44
  go_wp2_with fail
  with_reducible refine (HC.out).mono ?_
  rintro e w1 h1
  have H1 := Lib.hid (reqF_up HB.out h1)
  obtain ⟨XA, xn, xc, rfl, h2, h3⟩ := h1
  clear h2 h3
  go_wp2
  go_ret2
  exact H1.out
theorem request_4F : Calls Try.prog 44 #[ClA 4 p A n c s] w (ReqF w 4 p s zs) := by
  have K := clK w 4 p A n c s
  have HB := Lib.hid (clBl w 4 p A n c s)
  have c0 := K.cell 0 _ rfl
  have c1 := K.cell 1 _ rfl
  have c2 := K.cell 2 _ rfl
  have c3 := K.cell 3 _ rfl
  have HC : Hid (Calls Try.prog 93 #[ClA 4 p A n c s] (clW w 4 p A n c s) (ReqF (clW w 4 p A n c s) 4 p s zs)) := Lib.hid (keyed_anyF (clW w 4 p A n c s) B p s A n c zs (h.below ((clBl w 4 p A n c s).mono hB)) (by simp; omega) 4 (.inr rfl))
  clear K h
  go_enter Try.func44, Try.ntmps44
  go_wp2_with fail
  with_reducible refine (HC.out).mono ?_
  rintro e w1 h1
  have H1 := Lib.hid (reqF_up HB.out h1)
  obtain ⟨XA, xn, xc, rfl, h2, h3⟩ := h1
  clear h2 h3
  go_wp2
  go_ret2
  exact H1.out
theorem request_3F : Calls Try.prog 44 #[ClA 3 p A n c s] w (ReqF w 3 p s zs) := by
  have K := clK w 3 p A n c s
  have HB := Lib.hid (clBl w 3 p A n c s)
  have c0 := K.cell 0 _ rfl
  have c1 := K.cell 1 _ rfl
  have c2 := K.cell 2 _ rfl
  have c3 := K.cell 3 _ rfl
  have HC := Lib.hid (release_anyF (clW w 3 p A n c s) B p s A n c zs (h.below ((clBl w 3 p A n c s).mono hB)) (by simp; omega))
  clear K h
  go_enter Try.func44, Try.ntmps44
  go_wp2_with fail
  with_reducible refine (HC.out).mono ?_
  rintro e w1 h1
  have H1 := Lib.hid (reqF_up HB.out h1)
  obtain ⟨XA, xn, xc, rfl, h2, h3⟩ := h1
  clear h2 h3
  go_wp2
  go_ret2
  exact H1.out
end
theorem one_byteF (w : World) (o p : Int) (A : Option Addr) (n c : Nat) (s : Int) (k : Nat) (hk : k < 256) : NewB w [k] 1 (.returned (.tuple #[.slice (some ⟨w.heap.size + 1, 0, none⟩) 1 1, .int .i64 0])) ((clW w o p A n c s).alloc (.cells #[.int .u8 (k : Int)] 5)) := by
  refine ⟨some ⟨w.heap.size + 1, 0, none⟩, 1, rfl, ?_, (clBl w o p A n c s).alloc (by simp) _⟩
  have := OwnB.lit (clW w o p A n c s) [k] (by simp; omega) (n := 1) rfl (by unfold maxLen; omega)
  rw [show (clW w o p A n c s).heap.size = w.heap.size + 1 by simp] at this
  exact this.mono (by omega)
theorem request_5F (w : World) (p s : Int) (A : Option Addr) (n c : Nat) (zs : List Nat) : Calls Try.prog 44 #[ClA 5 p A n c s] w (ReqF w 5 p s zs) := by
  have K := clK w 5 p A n c s
  have c0 := K.cell 0 _ rfl
  clear K
  go_enter Try.func44, Try.ntmps44
  go_wp2
  go_ret2
  exact reqF_yes rfl rfl (one_byteF w 5 p A n c s 5 (by omega))
theorem request_6F (w : World) (p s : Int) (A : Option Addr) (n c : Nat) (zs : List Nat) : Calls Try.prog 44 #[ClA 6 p A n c s] w (ReqF w 6 p s zs) := by
  have K := clK w 6 p A n c s
  have c0 := K.cell 0 _ rfl
  clear K
  go_enter Try.func44, Try.ntmps44
  go_wp2
  go_ret2
  exact reqF_yes rfl rfl (one_byteF w 6 p A n c s 6 (by omega))
theorem request_noF (w : World) (o : Nat) (p s : Int) (A : Option Addr) (n c : Nat) (zs : List Nat) (ho : o < 1 ∨ 6 < o) : Calls Try.prog 44 #[ClA o p A n c s] w (ReqF w o p s zs) := by
  have K := clK w o p A n c s
  have HB := Lib.hid (clBl w o p A n c s)
  have c0 := K.cell 0 _ rfl
  clear K
  have d1 : ((o : Int) == 1) = false := by simp; omega
  have d2 : ((o : Int) == 2) = false := by simp; omega
  have d3 : ((o : Int) == 3) = false := by simp; omega
  have d4 : ((o : Int) == 4) = false := by simp; omega
  have d5 : ((o : Int) == 5) = false := by simp; omega
  have d6 : ((o : Int) == 6) = false := by simp; omega
  go_enter Try.func44, Try.ntmps44
  go_wp2
  go_ret2
  exact reqF_no 1 (by unfold rqC; rw [if_neg (by omega), if_pos (by omega)]) (by omega) ⟨rfl, HB.out⟩
theorem request_anyF (w : World) (B o : Nat) (p s : Int) (A : Option Addr) (n c : Nat) (zs : List Nat) (h : Arg w B A n c zs) (hB : B ≤ w.heap.size) : Calls Try.prog 44 #[ClA o p A n c s] w (ReqF w o p s zs) := by
  by_cases ho : o < 1 ∨ 6 < o
  · exact request_noF w o p s A n c zs ho
  · rcases (by omega : o = 1 ∨ o = 2 ∨ o = 3 ∨ o = 4 ∨ o = 5 ∨ o = 6) with rfl | rfl | rfl | rfl | rfl | rfl
    · exact request_1F w B p s A n c zs h hB
    · exact request_2F w B p s A n c zs h hB
    · exact request_3F w B p s A n c zs h hB
    · exact request_4F w B p s A n c zs h hB
    · exact request_5F w p s A n c zs
    · exact request_6F w p s A n c zs
end Go.Proofs.Ytndgladfcogiiaa


/- The law WireReads: its walk. -/
namespace Go.Proofs.Ytndgladfcogiiaa
open Go.RowKit
set_option maxRecDepth 100000
set_option linter.unusedVariables false

theorem own_frontR {w : World} {B n d : Nat} {F : Option Addr} {zs ms : List Nat} (h : OwnB w B F (n + 3) d (zs ++ ms)) (hl : zs.length = n) : Arg w w.heap.size F n d zs := by
  have := h.arg.take (k := n) (by omega)
  rwa [List.take_left' hl] at this
theorem Arg.setR {w : World} {B n c : Nat} {A : Option Addr} {zs : List Nat} (h : Arg w B A n c zs) {b i : Nat} {v : Value} (hb : B ≤ b) : Arg (w.setCell ⟨b, i, none⟩ v) B A n c zs := h.below ((Below.refl B w).setCell (p := ⟨b, i, none⟩) hb v)
theorem rqV_byte {zs : List Nat} (hb : ∀ d ∈ zs, d < 256) {x : ClV} {f : Int} (h : rqV zs = (x, f)) : ∀ d ∈ x.ks, d < 256 := by
  by_cases hl : 4096 < zs.length
  · unfold rqV at h; rw [if_pos hl] at h; cases h; intro d hd; simp [ClV.zero] at hd
  cases ht : toldV zs with
  | none => rw [rqV_none hl ht] at h; cases h; intro d hd; simp [ClV.zero] at hd
  | some y =>
    rw [rqV_some hl ht] at h
    split at h
    · cases h; exact toldV_byte hb ht
    · cases h; intro d hd; simp [ClV.zero] at hd
theorem toldV_lenR {zs : List Nat} {x : ClV} (h : toldV zs = some x) : x.ks.length ≤ zs.length := by
  unfold toldV at h
  have h1 : ∀ (l : List Nat) (a b : Nat), ((l.drop a).take b).length ≤ l.length := fun l a b => by rw [List.length_take, List.length_drop]; omega
  have h2 : (zs.drop 1).length ≤ zs.length := by rw [List.length_drop]; omega
  split at h
  · cases h
  split at h
  · split at h
    · cases h
    · cases h; exact Nat.le_trans (h1 _ _ _) h2
  split at h
  · split at h
    · cases h
    · cases h; exact Nat.le_trans (h1 _ _ _) h2
  split at h
  · split at h
    · cases h; exact Nat.le_trans (h1 _ _ _) h2
    · cases h; exact Nat.zero_le _
  · cases h; exact Nat.zero_le _
theorem rqV_len {zs : List Nat} {x : ClV} {f : Int} (h : rqV zs = (x, f)) : x.ks.length ≤ zs.length := by
  by_cases hl : 4096 < zs.length
  · unfold rqV at h; rw [if_pos hl] at h; cases h; exact Nat.zero_le _
  cases ht : toldV zs with
  | none => rw [rqV_none hl ht] at h; cases h; exact Nat.zero_le _
  | some y =>
    rw [rqV_some hl ht] at h
    split at h
    · cases h; exact toldV_lenR ht
    · cases h; exact Nat.zero_le _
theorem rr_x (w : World) (A : Option Addr) (n c : Nat) (zs : List Nat) (h : Arg w w.heap.size A n c zs) (x : ClV) (f : Int) (hv : rqV zs = (x, f)) (m : Nat) (hm : x.ks.length = m) : Calls Try.prog 46 #[.slice A n c] w fun e w' =>
    ∃ KA kc, e = .returned (.tuple #[ClA x.o x.p KA m kc x.s, .int .i64 f]) ∧ OwnV w' w.heap.size KA m kc (x.ks.map V8) ∧ Below w.heap.size w w' := by
  subst hm
  have := readRequest_any w A n c zs h
  rw [hv] at this
  exact this
theorem dr_x (w : World) (A : Option Addr) (n c : Nat) (zs : List Nat) (h : Arg w w.heap.size A n c zs) (x : ClV) (f : Int) (hv : rqV zs = (x, f)) (m : Nat) (hm : x.ks.length = m) : Calls Try.prog 49 #[.slice A n c] w fun e w' =>
    ∃ KA kc, e = .returned (.tuple #[ClA x.o x.p KA m kc x.s, .int .i64 f]) ∧ OwnV w' w.heap.size KA m kc (x.ks.map V8) ∧ Below w.heap.size w w' := by
  subst hm
  have := docReadRequest_any w A n c zs h
  rw [hv] at this
  exact this
theorem rf_x (w : World) (B : Nat) (A : Option Addr) (n c : Nat) (x : ClV) (zs : List Nat) (h : Arg w B A n c x.ks) (hB : B ≤ w.heap.size) (hc : rqC x.o x.p x.s x.ks.length = 0) (he : rqB x.o x.p x.s x.ks = zs) : Calls Try.prog 44 #[ClA x.o x.p A n c x.s] w fun e w' =>
    ∃ XA xn xc, e = .returned (.tuple #[.slice XA xn xc, .int .i64 0]) ∧ OwnV w' w.heap.size XA xn xc (zs.map V8) ∧ Below w.heap.size w w' := by
  refine (request_anyF w B x.o x.p x.s A n c x.ks h hB).mono ?_
  rintro e w' ⟨XA, xn, xc, h1, h2, h3⟩
  rw [hc] at h1
  rw [if_pos hc, he] at h2
  exact ⟨XA, xn, xc, h1, h2, h3⟩
/-- The loop that changes the key. -/
def KeyR (w : World) (B2 tb Bp : Nat) (K F P A : Option Addr) (kn kc n d pn pc c : Nat) (o p s : Int) (zs : List Nat) (iv : Value) (wr : World) : Prop :=
  ∃ (k : Nat) (xs : List Nat), k ≤ kn ∧ iv = .int .i64 (k : Int) ∧ OwnV wr B2 K kn kc (xs.map V8) ∧ BlkL wr tb (clB o p K kn kc s) ∧ OwnV wr Bp P pn pc (zs.map V8) ∧ Arg wr B2 F (n + 3) d (zs ++ marks) ∧ Arg wr w.heap.size A n c zs ∧ Below w.heap.size w wr ∧ Bp ≤ wr.heap.size ∧ ∀ y ∈ xs, y < 256
theorem V8_set (xs : List Nat) (k v : Nat) : (xs.map V8).set k (V8 v) = (xs.set k v).map V8 := List.map_set.symm
set_option maxHeartbeats 3200000 in
theorem wireReads_m (A : Option Addr) (n c : Nat) (zs : List Nat) (w : World) (h : Arg w w.heap.size A n c zs) (hsz : c ≤ 140737488351232) (x : ClV) (er : Int) (hv : rqV zs = (x, er)) (m : Nat) (hm : x.ks.length = m) (hg : er = 0 → rqC x.o x.p x.s x.ks.length = 0 ∧ rqB x.o x.p x.s x.ks = zs) :
    Calls Try.prog 12 #[.slice A n c] w (ValEnd w (.bool true)) := by
  obtain ⟨i0, hi, hz0, hz1, hz2⟩ := info_parts u8_info
  have hle := h.le
  have hl := h.len
  have HL := Lib.hid hl
  have HA0 := Lib.hid h
  have HV := Lib.hid hv
  have HM := Lib.hid hm
  have HG := Lib.hid hg
  have HBY := Lib.hid (rqV_byte (fun d hd => h.byte d hd) hv)
  clear h hl hv hm hg
  go_enter Try.func12, Try.ntmps12
  go_wp2_with fail
  with_reducible refine (awake21_any _).mono ?_
  rintro e w1 ⟨rfl, hb⟩
  have HA1 := Lib.hid (HA0.out.below hb)
  have hz1' := hb.size
  have HB1 := Lib.hid hb
  clear hb HA0
  go_wp2_with fail
  with_reducible refine (spare_any _ A n c zs (HA1.out.more hz1') (by omega)).mono ?_
  rintro e w2 ⟨F, d, rfl, ho, hb⟩
  have hb2 := HB1.out.trans (hb.mono hz1')
  have HA2 := Lib.hid (HA1.out.below (hb.mono hz1'))
  have hz2' := hb2.size
  have HB2 := Lib.hid hb2
  have HO2 := Lib.hid ho
  clear hb hb2 HA1 HB1 ho
  have HE := Lib.hid (rr_x w2 F n d zs (own_frontR HO2.out HL.out) x er HV.out m HM.out)
  go_wp2_with fail
  with_reducible refine (HE.out).mono ?_
  rintro e w3 ⟨K, kc, rfl, hok, hb⟩
  have hb3 := HB2.out.trans (hb.mono hz2')
  have hz3 := hb3.size
  have bt := (Below.refl w3.heap.size w3).alloc (Nat.le_refl _) (.cells #[.int .u8 x.o, .int .i64 x.p, .slice K m kc, .int .i64 x.s] 71)
  have HA3 := Lib.hid ((HA2.out.below (hb.mono hz2')).below (bt.mono hz3))
  have HB3 := Lib.hid (hb3.alloc hz3 (.cells #[.int .u8 x.o, .int .i64 x.p, .slice K m kc, .int .i64 x.s] 71))
  have HT3 : Hid (BlkL (w3.alloc (.cells #[.int .u8 x.o, .int .i64 x.p, .slice K m kc, .int .i64 x.s] 71)) w3.heap.size (clB x.o x.p K m kc x.s)) := Lib.hid (clK w3 x.o x.p K m kc x.s)
  have hz3' := HB3.out.size
  have HK3 := Lib.hid (hok.below bt)
  have HKG : Hid (∀ y ∈ bkV K, w2.heap.size ≤ y ∧ y < w3.heap.size) := Lib.hid hok.lt
  have hq3 := hb.size
  have HF3 := Lib.hid ((HO2.out.arg.below hb).below (bt.mono hq3))
  clear hok hb hb3 bt HA2 HO2 HB2 HE
  have HD := Lib.hid (dr_x (w3.alloc (.cells #[.int .u8 x.o, .int .i64 x.p, .slice K m kc, .int .i64 x.s] 71)) A n c zs (HA3.out.more hz3') x er HV.out m HM.out)
  go_wp2_with fail
  with_reducible refine (HD.out).mono ?_
  rintro e w5 ⟨U, uc, rfl, hou, hb⟩
  have hb5 := HB3.out.trans (hb.mono hz3')
  have hz5 := hb5.size
  have bt := (Below.refl w5.heap.size w5).alloc (Nat.le_refl _) (.cells #[.int .u8 x.o, .int .i64 x.p, .slice U m uc, .int .i64 x.s] 71)
  have HA5 := Lib.hid ((HA3.out.below (hb.mono hz3')).below (bt.mono hz5))
  have HB5 := Lib.hid (hb5.alloc hz5 (.cells #[.int .u8 x.o, .int .i64 x.p, .slice U m uc, .int .i64 x.s] 71))
  have t3 := HT3.out.below hb
  have HT5 := Lib.hid (t3.alloc (.cells #[.int .u8 x.o, .int .i64 x.p, .slice U m uc, .int .i64 x.s] 71))
  have hz5' := HB5.out.size
  have c0 := t3.cell 0 _ rfl
  have c1 := t3.cell 1 _ rfl
  have c2 := t3.cell 2 _ rfl
  have c3 := t3.cell 3 _ rfl
  have zt := t3.lt
  have HK5 := Lib.hid ((HK3.out.below hb).below bt)
  have HU5 := Lib.hid (hou.below bt)
  have HS5 := Lib.hid (same21_any _ _ _ K U m kc m uc x x true ((eqC_iff x x).2 rfl) (HK5.out.arg' HBY.out) (HU5.out.arg' HBY.out) (Nat.le_refl _) (Nat.le_refl _))
  have hq5 : w3.heap.size + 1 ≤ w5.heap.size := by have := hb.size; simpa using this
  have HF5 := Lib.hid ((HF3.out.below (hb.mono (by simp; omega))).below (bt.mono (by omega)))
  clear hou HK3 HF3
  clear hb hb5 bt HA3 HB3 t3 HT3 HD
  go_wp2_with fail
  with_reducible refine HS5.out.mono ?_
  rintro e w6 ⟨rfl, hb⟩
  have hb6 := HB5.out.trans (hb.mono hz5')
  have hz6 := hb6.size
  have HA6 := Lib.hid (HA5.out.below (hb.mono hz5'))
  have HB6 := Lib.hid hb6
  have HT6 := Lib.hid (HT5.out.below hb)
  have HK6 := Lib.hid (HK5.out.below hb)
  have hq6 : w5.heap.size + 1 ≤ w6.heap.size := by have := hb.size; simpa using this
  have HF6 := Lib.hid (HF5.out.below (hb.mono (by simp; omega)))
  clear HK5 HU5 HF5
  clear c0 c1 c2 c3 zt hb hb6 HA5 HB5 HT5 HS5
  have her2 : (er != er) = false := by simp
  go_wp2_with fail
  with_reducible refine (kept_any _ _ _ F A n c d zs HF6.out HA6.out).mono ?_
  rintro e w7 ⟨rfl, t, rfl⟩
  by_cases he0 : er = 0
  · subst he0
    obtain ⟨hcc, hee⟩ := HG.out rfl
    have HCC := Lib.hid hcc
    have HEE := Lib.hid hee
    clear hcc hee
    have HT7 := Lib.hid (HT6.out.drewN t)
    have HK7 := Lib.hid (HK6.out.below (below_drewN (Below.refl _ _) t))
    have HA7 := Lib.hid (HA6.out.drewN t)
    have HF7 := Lib.hid (HF6.out.drewN t)
    have HB7 := Lib.hid (below_drewN HB6.out t)
    have t7 := HT7.out
    have c0 := t7.cell 0 _ rfl
    have c1 := t7.cell 1 _ rfl
    have c2 := t7.cell 2 _ rfl
    have c3 := t7.cell 3 _ rfl
    have zt := t7.lt
    obtain ⟨wy, hwy⟩ : ∃ x, x = w6.drewN t := ⟨_, rfl⟩
    have hq7 : w5.heap.size + 1 ≤ (w6.drewN t).heap.size := hq6
    rw [← hwy] at HT7 HK7 HA7 HB7 HF7 hq7 c0 c1 c2 c3 zt
    rw [← hwy]
    clear t7 hwy HT6 HK6 HA6 HB6 HF6 hz6 hq6
    have HRF := Lib.hid (rf_x wy _ K m kc x zs (HK7.out.arg' HBY.out) (Nat.le_refl _) HCC.out HEE.out)
    go_wp2_with fail
    with_reducible refine (HRF.out).mono ?_
    rintro e w8 ⟨P, pn, pc, rfl, hop, hb⟩
    have hz7 := HB7.out.size
    have HK8 := Lib.hid (HK7.out.below hb)
    have HF8 := Lib.hid (HF7.out.below (hb.mono (by omega)))
    have hq8 := hb.size
    have HA8 := Lib.hid (HA7.out.below (hb.mono hz7))
    have HT8 := Lib.hid (HT7.out.below hb)
    have HB8 := Lib.hid (HB7.out.trans (hb.mono hz7))
    have hz8 := HB8.out.size
    have HP8 := Lib.hid hop
    clear c0 c1 c2 c3 zt HT7 HK7 HA7 HB7 HF7 hb hop
    have t8 := HT8.out
    have c0 := t8.cell 0 _ rfl
    have c1 := t8.cell 1 _ rfl
    have c2 := t8.cell 2 _ rfl
    have c3 := t8.cell 3 _ rfl
    have zt := t8.lt
    clear t8
    have HQ : Hid (w2.heap.size ≤ w3.heap.size ∧ w3.heap.size < wy.heap.size) := Lib.hid ⟨hq3, by omega⟩
    go_wp2
    go_loopw [54] (fun iv wr => KeyR w w2.heap.size w3.heap.size wy.heap.size K F P A m kc n d pn pc c x.o x.p x.s zs iv wr) (fun iv _ => m - (intOf iv).toNat)
    case atStart => exact ⟨0, x.ks, Nat.zero_le _, rfl, HK8.out.mono (by omega), HT8.out, HP8.out, HF8.out, HA8.out, HB8.out, hq8, HBY.out⟩
    case round =>
      obtain ⟨k, xs, hk, rfl, hkey, htk, hP, hF, hA, hB, hq9, hby⟩ := hrel
      clear c0 c1 c2 c3 zt HK8 HT8 HP8 HF8 HA8 HB8
      have c0 := htk.cell 0 _ rfl
      have c1 := htk.cell 1 _ rfl
      have c2 := htk.cell 2 _ rfl
      have c3 := htk.cell 3 _ rfl
      have f2 := htk.froz 2 (by simp)
      have zt := htk.lt
      have HKEY := Lib.hid hkey
      have HTK := Lib.hid htk
      have HP := Lib.hid hP
      have HF := Lib.hid hF
      have HA := Lib.hid hA
      have HB := Lib.hid hB
      have HBX := Lib.hid hby
      have hqB := hB.size
      clear htk hP hF hA hB hby
      rcases Nat.lt_or_ge k m with h1 | h1
      · obtain ⟨g, off, rfl, hg, hgl0, hcg, hfg⟩ := hkey.cell (by omega)
        have hlx := hkey.len
        rw [List.length_map] at hlx
        have hck : wr.cell? ⟨g, off + k, none⟩ = some (.int .u8 (xs.getD k 0 : Nat)) := hcg k _ (by rw [List.getElem?_map, List.getElem?_eq_getElem (by omega)]; simp [V8, List.getD_eq_getElem?_getD, List.getElem?_eq_getElem (show k < xs.length by omega)])
        have hfk := hfg k h1
        have hgg := HKG.out g (by simp [bkV])
        have hgl := hgg.2
        have hx : xs.getD k 0 < 256 := HBX.out _ (by rw [List.getD_eq_getElem?_getD, List.getElem?_eq_getElem (show k < xs.length by omega)]; simp)
        have hkl := hkey.cap
        have hkle := hkey.le
        unfold maxLen at hkl
        generalize xs.getD k 0 = y at hck hx
        have hcast : (((y + 1) % 256 : Nat) : Int) = ((y : Int) + 1) % 256 := by omega
        have HC := Lib.hid hcast
        have fo : Off [g] wr (wr.setCell ⟨g, off + k, none⟩ (V8 ((y + 1) % 256))) := (Off.refl _ _).setCell (p := ⟨g, off + k, none⟩) (by simp) _
        have HK2 := Lib.hid (hkey.set k (V8 ((y + 1) % 256)) h1)
        rw [V8_set] at HK2
        have HT2 := Lib.hid (HTK.out.off fo (by simp; omega))
        have HP2 := Lib.hid (HP.out.off fo (fun z hz => by have := (HP.out.lt z hz).1; have := HQ.out; simp; omega))
        have HF2 := Lib.hid (HF.out.setR (b := g) (i := off + k) (v := V8 ((y + 1) % 256)) hgg.1)
        have HA2 := Lib.hid (HA.out.setR (b := g) (i := off + k) (v := V8 ((y + 1) % 256)) (by omega))
        have HB2' := Lib.hid (HB.out.setCell (p := ⟨g, off + k, none⟩) (by show w.heap.size ≤ g; omega) (V8 ((y + 1) % 256)))
        have HBX2 : Hid (∀ z ∈ xs.set k ((y + 1) % 256), z < 256) := Lib.hid fun z hz => by
          rcases List.mem_or_eq_of_mem_set hz with h' | h'
          · exact HBX.out z h'
          · omega
        simp only [V8, hcast] at HK2 HT2 HP2 HF2 HA2 HB2'
        clear hcast hkey hcg hfg fo
        go_wp2
        go_roundw
        case rel => exact ⟨k + 1, _, by omega, by go_num, HK2.out, HT2.out, HP2.out, HF2.out, HA2.out, HB2'.out, by simpa using hq9, HBX2.out⟩
        case measure => simp [intOf]; omega
      · obtain rfl : k = m := by omega
        have bl2 := (Below.refl wr.heap.size wr).alloc (Nat.le_refl _) (.cells #[.int .u8 1] 5)
        have HLIT : Hid (BlkL (wr.alloc (.cells #[.int .u8 1] 5)) wr.heap.size [.int .u8 1]) := Lib.hid (BlkL.new wr _ _)
        have HKa := Lib.hid (hkey.below bl2)
        have HTl := Lib.hid (HTK.out.below bl2)
        have HPl := Lib.hid (HP.out.below bl2)
        have HFl := Lib.hid (HF.out.below (bl2.mono (by have := HQ.out; omega)))
        have HAl := Lib.hid (HA.out.below (bl2.mono (by omega)))
        have HBl := Lib.hid (HB.out.trans (bl2.mono (by omega)))
        have HSZ : Hid (w2.heap.size ≤ (wr.alloc (.cells #[.int .u8 1] 5)).heap.size) := Lib.hid (by have := HQ.out; simp; omega)
        have hone : ∀ u ∈ ([.int .u8 1] : List Value), u.oneCell' = true := by intro u hu; simp at hu; subst hu; rfl
        have hkn : (k + 1) * 1 ≤ 140737488355328 := by have := rqV_len HV.out; have := HM.out; have := HL.out; omega
        clear hkey bl2
        go_wp2_with (refine wpList_append_v Try.underlying22 hi hz0 hz1 hz2 rfl rfl (.tmp 66) (.tmp 67) rfl rfl HKa.out wr.heap.size 1 1 [.int .u8 1] rfl rfl HLIT.out hone (by omega) (by omega) hkn HSZ.out ?_)
        intro K2 kc2 wz hoz hoff hbk
        have hbz := hoff.below (B := w2.heap.size) HSZ.out (fun y hy => (HKG.out y hy).1)
        have hTz := HTl.out.off hoff (fun hh => by have := (HKG.out _ hh).2; omega)
        have hPz := HPl.out.off hoff (fun y hy hh => by have := (HKG.out _ hh).2; have := (HPl.out.lt y hy).1; have := HQ.out; omega)
        have hFz := HFl.out.below hbz
        have hAz := HAl.out.below (hbz.mono (by omega))
        have hBz := HBl.out.trans (hbz.mono (by omega))
        have fo : Off [w3.heap.size] wz (wz.setCell ⟨w3.heap.size, 2, none⟩ (.slice K2 (k + 1) kc2)) := (Off.refl _ _).setCell (p := ⟨w3.heap.size, 2, none⟩) (by simp) _
        have hTs := hTz.set 2 (.slice K2 (k + 1) kc2) (by simp)
        have HPs := Lib.hid (hPz.off fo (fun y hy => by have := (hPz.lt y hy).1; have := HQ.out; simp; omega))
        have HFs := Lib.hid (hFz.setR (b := w3.heap.size) (i := 2) (v := .slice K2 (k + 1) kc2) (by have := HQ.out; omega))
        have HAs := Lib.hid (hAz.setR (b := w3.heap.size) (i := 2) (v := .slice K2 (k + 1) kc2) (by omega))
        have HBs := Lib.hid (hBz.setCell (p := ⟨w3.heap.size, 2, none⟩) (by show w.heap.size ≤ w3.heap.size; omega) (.slice K2 (k + 1) kc2))
        simp only [List.set_cons_succ, List.set_cons_zero] at hTs
        have HTs := Lib.hid hTs
        have y0 := hTz.cell 0 _ rfl
        have y1 := hTz.cell 1 _ rfl
        have y2 := hTz.cell 2 _ rfl
        have y3 := hTz.cell 3 _ rfl
        have g2 := hTz.froz 2 (by simp)
        have yz := hTz.lt
        have HSB := Lib.hid (same_any (wz.setCell ⟨w3.heap.size, 2, none⟩ (.slice K2 (k + 1) kc2)) _ _ P A pn pc n c zs zs true (by simp) (HPs.out.arg' (fun d hd => HAs.out.byte d hd)) HAs.out)
        clear hTz hFz hAz hBz hTs hPz hoz hbz hoff hbk HTK HP HF HA HB HKEY HTl HPl HFl HAl HBl HKa HLIT fo c0 c1 c2 c3 f2 zt hone
        go_wp2_with fail
        with_reducible refine (HSB.out).mono ?_
        rintro e w9 ⟨rfl, t9, rfl⟩
        have HKP := Lib.hid (kept_any ((wz.setCell ⟨w3.heap.size, 2, none⟩ (.slice K2 (k + 1) kc2)).drewN t9) _ _ F A n c d zs (HFs.out.drewN _) (HAs.out.drewN _))
        go_wp2_with fail
        with_reducible refine (HKP.out).mono ?_
        rintro e w10 ⟨rfl, t10, rfl⟩
        have kt := HTs.out.drewN (t9 + t10)
        have v2 := kt.cell 2 _ rfl
        have vz := kt.lt
        have hd1 : decide ((0 : Int) < (k : Int) + 1) = true := decide_eq_true (by omega)
        clear kt y0 y1 y2 y3 g2 yz
        go_wp2
        go_ret
        exact ⟨rfl, below_drewN HBs.out _⟩
  · have her : (er != 0) = true := by simpa using he0
    go_wp2
    go_ret
    exact ⟨rfl, below_drewN HB6.out _⟩
theorem wireReads_walk (A : Option Addr) (n c : Nat) (zs : List Nat) (w : World) (h : Arg w w.heap.size A n c zs) (hsz : c ≤ 140737488351232) :
    Calls Try.prog 12 #[.slice A n c] w (ValEnd w (.bool true)) := by
  obtain ⟨⟨x, er⟩, hv⟩ : ∃ z, rqV zs = z := ⟨_, rfl⟩
  refine wireReads_m A n c zs w h hsz x er hv _ rfl ?_
  rintro rfl
  by_cases hl : 4096 < zs.length
  · unfold rqV at hv; rw [if_pos hl] at hv; simp at hv
  cases ht : toldV zs with
  | none => rw [rqV_none hl ht] at hv; simp at hv
  | some y =>
    rw [rqV_some hl ht] at hv
    split at hv
    · rename_i hh; cases hv; exact hh
    · simp at hv
end Go.Proofs.Ytndgladfcogiiaa
