/- guard: Fire, Strikes of any ring; Live of one that is off. -/
import Derived.Test.YtifldnkcheobhaaDoorGvG
namespace Go.Proofs.YtifldnkcheobhaaDoor
open Go.RowKit
set_option maxRecDepth 100000
set_option linter.unusedVariables false
set_option linter.unusedSimpArgs false
set_option maxHeartbeats 4000000

structure RepC where
  nm : ByteArray
  ms : List MarkV
  cls : Nat
  n : Int
  off : Bool
structure RpM where
  r : RepC
  A : Option Addr
  c : Nat
def RpM.cells (x : RpM) : List Value := [.string x.r.nm, .slice x.A x.r.ms.length x.c, .int .u8 (x.r.cls : Int), .int .i64 x.r.n, .bool x.r.off]
def FRp (rs : List RpM) : List Value := rs.flatMap RpM.cells
theorem FRp_snoc (rs : List RpM) (x : RpM) : FRp (rs ++ [x]) = FRp rs ++ x.cells := by simp [FRp]
theorem FRp_at : ∀ (rs : List RpM) (i : Nat) (x : RpM), rs[i]? = some x → ∀ j, j < 5 → (FRp rs)[i * 5 + j]? = x.cells[j]? := by
  intro rs
  induction rs with
  | nil => intro i x h; simp at h
  | cons a r ih =>
    intro i x h j hj
    have hl : a.cells.length = 5 := rfl
    cases i with
    | zero => simp at h; subst h; simp only [FRp, List.flatMap_cons, Nat.zero_mul, Nat.zero_add]; rw [List.getElem?_append_left (by omega)]
    | succ i =>
      simp at h
      have := ih i x h j hj
      simp only [FRp, List.flatMap_cons] at this ⊢
      rw [List.getElem?_append_right (by omega), hl, ← this]
      congr 1
      omega
/-- Reports in memory. -/
def RepsN (w : World) (B : Nat) (A : Option Addr) (c : Nat) (rs : List RpM) : Prop :=
  OwnS w B 5 A rs.length c (FRp rs) ∧ ∀ r ∈ rs, OwnS w B 3 r.A r.r.ms.length r.c (FMk r.r.ms) ∧ ∀ y ∈ bkV r.A, y ∉ bkV A
theorem RepsN.nil (w : World) (B : Nat) : RepsN w B none 0 [] := ⟨OwnS.nil _ _ _, fun r h => by cases h⟩
theorem RepsN.off {w w' : World} {B c : Nat} {A : Option Addr} {rs : List RpM} {S : List Nat} (h : RepsN w B A c rs) (ho : Off S w w') (hS : ∀ y ∈ S, y < B ∨ w.heap.size ≤ y) : RepsN w' B A c rs := by
  have key : ∀ (a : Option Addr) (k n c : Nat) (vs : List Value), OwnS w B k a n c vs → OwnS w' B k a n c vs := fun a k n c vs h => h.off ho (fun y hy e => by have := h.lt y hy; rcases hS y e with g | g <;> omega)
  exact ⟨key _ _ _ _ _ h.1, fun r hr => ⟨key _ _ _ _ _ (h.2 r hr).1, (h.2 r hr).2⟩⟩
theorem RepsN.snoc {w w' : World} {B c c' : Nat} {A A' : Option Addr} {rs : List RpM} {x : RpM} (h : RepsN w B A c rs) (hx : OwnS w B 3 x.A x.r.ms.length x.c (FMk x.r.ms)) (hn : ∀ y ∈ bkV x.A, y ∉ bkV A)
    (ho : OwnS w' B 5 A' (rs.length + 1) c' (FRp rs ++ x.cells)) (hf : Off (bkV A) w w') (hk : ∀ y ∈ bkV A', y ∈ bkV A ∨ w.heap.size ≤ y) : RepsN w' B A' c' (rs ++ [x]) := by
  refine ⟨by rw [List.length_append, FRp_snoc]; exact ho, fun r hr => ?_⟩
  have key : ∀ r : RpM, OwnS w B 3 r.A r.r.ms.length r.c (FMk r.r.ms) → (∀ y ∈ bkV r.A, y ∉ bkV A) → OwnS w' B 3 r.A r.r.ms.length r.c (FMk r.r.ms) ∧ ∀ y ∈ bkV r.A, y ∉ bkV A' := fun r h1 h2 =>
    ⟨h1.off hf h2, fun y hy hy2 => by rcases hk y hy2 with e | e; exact h2 y hy e; have := (h1.lt y hy).2; omega⟩
  rcases List.mem_append.1 hr with h1 | h1
  · exact key r (h.2 r h1).1 (h.2 r h1).2
  · rw [List.mem_singleton.1 h1]; exact key x hx hn
def repV (nm : ByteArray) (p : List (List ActV)) (s k : Int) : RepC := ⟨nm, (runP p).st.marks, (outV p).1, (outV p).2, !decide (stN p s < k)⟩
def fireV (gs : List GH) (st : Nat → Int) (k : Int) (j : Nat) : List RepC :=
  match gs[j]? with
  | some g => if st j < k then [repV g.nm g.p (st j) k] else []
  | none => []
def firesV (gs : List GH) (st : Nat → Int) (k : Int) (i : Nat) : List RepC := (List.range i).flatMap (fireV gs st k)
theorem firesV_succ (gs : List GH) (st : Nat → Int) (k : Int) (i : Nat) : firesV gs st k (i + 1) = firesV gs st k i ++ fireV gs st k i := by simp [firesV, List.range_succ]
def hitV (gs : List GH) (st : Nat → Int) (k : Int) (j : Nat) : Int :=
  match gs[j]? with
  | some g => if st j < k then stN g.p (st j) else st j
  | none => st j
def afterV (gs : List GH) (st : Nat → Int) (k : Int) (i : Nat) : Nat → Int := fun j => if j < i then hitV gs st k j else st j
theorem afterV_at (gs : List GH) (st : Nat → Int) (k : Int) (i : Nat) : afterV gs st k i i = st i := if_neg (by omega)
theorem afterV_succ (gs : List GH) (st : Nat → Int) (k : Int) (i : Nat) : (fun j => if j = i then hitV gs st k i else afterV gs st k i j) = afterV gs st k (i + 1) := by
  funext j
  unfold afterV
  by_cases h : j = i
  · subst h; simp
  · rw [if_neg h]
    by_cases g : j < i
    · rw [if_pos g, if_pos (by omega)]
    · rw [if_neg g, if_neg (by omega)]
theorem RingX.offN {w w7 w8 : World} {B rb mb : Nat} {hA : Option Addr} {hc : Nat} {gs : List GH} {k : Int} {ns : List ByteArray} {st st' : Nat → Int} {S : List Nat} (h : RingX w7 B rb mb hA hc gs k ns st) (h0 : RingX w B rb mb hA hc gs k ns st') (ho : Off S w7 w8) (hS : ∀ y ∈ S, w.heap.size ≤ y) :
    RingX w8 B rb mb hA hc gs k ns st :=
  ⟨h.blk.off ho (fun e => by have := hS _ e; have := h0.blk.lt; omega), h.own.off ho (fun y hy e => by have := hS _ e; have := (h0.own.lt y hy).2; omega), h.map.off ho (fun e => by have := hS _ e; have := h0.map.lt; omega), fun i g hg => by
    obtain ⟨h1, h2, h3, h4⟩ := h.hks i g hg
    obtain ⟨k1, k2, k3, k4⟩ := h0.hks i g hg
    exact ⟨h1.off ho (fun e => by have := hS _ e; have := k1.lt; omega), h2.off h3 ho (fun y hy => Or.inr (Nat.le_trans k3 (hS y hy))), Nat.le_trans h3 ho.size, h4⟩, h.low, h.sep, h.hh, h.nd⟩
theorem Fire_any {w0 w : World} (h0 : Lib0 w0) (hb0 : Below w0.heap.size w0 w) {B rb mb hc : Nat} {hA : Option Addr} {gs : List GH} {k : Int} {ns : List ByteArray} {st : Nat → Int} (hX : RingX w B rb mb hA hc gs k ns st) (hw0 : w0.heap.size ≤ B)
    (hpo : ∀ g ∈ gs, ProgOk g.p) (hst : ∀ i, 0 ≤ st i ∧ st i ≤ 1000000) (hl : gs.length ≤ 32) :
    Calls Tryd.prog 17 #[.pointer (some ⟨rb, 0, none⟩)] w fun e w' => ∃ A' c' m, e = .returned (.tuple #[.slice A' m c', .int .i64 0]) ∧ (∃ rs, m = rs.length ∧ RepsN w' w.heap.size A' c' rs ∧ rs.map RpM.r = firesV gs st k gs.length) ∧ RingX w' B rb mb hA hc gs k ns (afterV gs st k gs.length) ∧ Off (gs.map GH.hk) w w' := by
  obtain ⟨iR, hiR, hR0, hR1, hR2⟩ := info_partsRep
  have r0 := hX.blk.cell 0 _ rfl
  have rl := hX.blk.lt
  have HX := Lib.hid hX
  have HPO := Lib.hid hpo
  have HST := Lib.hid hst
  have hbp : ∀ (W : World), Off (gs.map GH.hk) w W → Below w0.heap.size w0 W := fun W ho => hb0.trans (ho.below hb0.size (fun x hx => by obtain ⟨g, hg, rfl⟩ := List.mem_map.1 hx; exact Nat.le_trans hw0 (hX.sep g hg).1))
  have HBP := Lib.hid hbp
  clear hX hpo hst hbp
  go_enter Tryd.func17, Tryd.ntmps17
  go_wp2_with fail
  go_loopw [4, 14] (fun lv iv wr => ∃ i : Nat, i ≤ gs.length ∧ iv = .int .i64 (i : Int) ∧ ∃ A' c' m, lv = .slice A' m c' ∧ (∃ rs, m = rs.length ∧ RepsN wr w.heap.size A' c' rs ∧ rs.map RpM.r = firesV gs st k i ∧ rs.length ≤ i) ∧ RingX wr B rb mb hA hc gs k ns (afterV gs st k i) ∧ Off (gs.map GH.hk) w wr) (fun _ iv _ => gs.length - (intOf iv).toNat)
  case atStart => exact ⟨0, Nat.zero_le _, rfl, none, 0, 0, rfl, ⟨[], rfl, RepsN.nil _ _, rfl, Nat.le_refl _⟩, HX.out, Off.refl _ _⟩
  case round =>
    obtain ⟨i, hi, rfl, A', c', m, rfl, ⟨rs, rfl, hR, hrs, hrl⟩, hX, hof⟩ := hrel
    have HR := Lib.hid hR
    have HRS := Lib.hid hrs
    have HXX := Lib.hid hX
    have HOF := Lib.hid hof
    rcases Nat.lt_or_ge i gs.length with h1 | h1
    · have hii : (i : Int) < (gs.length : Int) := by omega
      have hi1 : IntKind.i64.wrap ((i : Int) + 1) = ((i + 1 : Nat) : Int) := by rw [IntWalk.i64_in _ (by omega)]; omega
      obtain ⟨g, hg⟩ : ∃ g, gs[i]? = some g := ⟨gs[i], List.getElem?_eq_getElem h1⟩
      have hgm := List.mem_of_getElem? hg
      have hpg := HPO.out g hgm
      obtain ⟨ab, ao, rfl, -, -, hcl, -⟩ := hX.own.cell (by omega)
      have p0 := hcl i _ (by rw [List.getElem?_map, hg]; rfl)
      obtain ⟨kb, kp, khi, klo⟩ := hX.hks i g hg
      rw [afterV_at] at kb
      have hsti := HST.out i
      have hne : ¬ rb = g.hk := ((hX.sep g hgm).2 rb (by simp)).1
      have HON := Lib.hid (isOn_any wr rb g.hk _ _ _ g.nm k (st i) hX.blk kb)
      have bd := (Below.refl wr.heap.size wr).drew
      have hX1 := hX.below bd
      have HFI := Lib.hid (fire_any h0 ((HBP.out wr hof).drew) rb g.hk _ _ g.Pv g.nm k (st i) g.p hX1.blk (kb.below bd) hne ((kp.q khi khi).below bd) hpg hsti)
      have hlt := kb.lt
      have HG := Lib.hid hg
      have HGM := Lib.hid hgm
      have HX1 := Lib.hid hX1
      by_cases hon : st i < k
      · have hd : decide (st i < k) = true := decide_eq_true hon
        have hfv : fireV gs st k i = [repV g.nm g.p (st i) k] := by unfold fireV; rw [hg]; simp only; rw [if_pos hon]
        have hhv : hitV gs st k i = stN g.p (st i) := by unfold hitV; rw [hg]; simp only; rw [if_pos hon]
        have HFV := Lib.hid hfv
        have HHV := Lib.hid hhv
        clear hX hof hR hrs hcl kb kp bd hX1 hg hgm hpg hfv hhv hon
        go_wp2_with fail
        with_reducible refine HON.out.mono ?_
        rintro e w6 ⟨rfl, rfl⟩
        rw [hd]
        go_wp2_with fail
        with_reducible refine HFI.out.mono ?_
        rintro e w7 ⟨A, cc, rfl, ho7, hof7, hbk7⟩
        have hs7 := hof7.size
        have hmk : (runP g.p).st.marks = (repV g.nm g.p (st i) k).ms := rfl
        have HMK := Lib.hid hmk
        obtain ⟨R, hRe⟩ : ∃ R : RpM, R = ⟨repV g.nm g.p (st i) k, A, cc⟩ := ⟨_, rfl⟩
        have hRc : R.cells = [.string g.nm, .slice A (runP g.p).st.marks.length cc, .int .u8 ((outV g.p).1 : Int), .int .i64 (outV g.p).2, .bool (!decide (stN g.p (st i) < k))] := by rw [hRe]; rfl
        have HRC := Lib.hid hRc
        have hX8 := HX1.out.strike HG.out (stN g.p (st i)) hof7 hbk7
        have hX9 : RingX w7 B rb mb (some ⟨ab, ao, none⟩) hc gs k ns (afterV gs st k (i + 1)) := by
          rw [← afterV_succ, HHV.out]; exact hX8
        have hws : w.heap.size ≤ wr.heap.size := HOF.out.size
        have hR7 : RepsN w7 w.heap.size A' c' rs := (HR.out.off (S := []) (Off.of_below (Below.refl wr.heap.size wr).drew) (by simp)).off hof7 (fun y hy => Or.inl (by simp at hy; subst hy; exact HX.out.ltB g HGM.out))
        have hmo : OwnS w7 w.heap.size 3 R.A R.r.ms.length R.c (FMk R.r.ms) := by rw [hRe]; exact ho7.mono hws
        have hmn : ∀ y ∈ bkV R.A, y ∉ bkV A' := by
          intro y hy hy2
          rw [hRe] at hy
          have h1 := (ho7.lt y hy).1
          have h2 := (HR.out.1.lt y hy2).2
          have e : wr.drew.heap.size = wr.heap.size := rfl
          omega
        have hof9 : Off (gs.map GH.hk) w w7 := (HOF.out.drew).trans (hof7.mono (fun x hx => by simp at hx; subst hx; exact List.mem_map.2 ⟨g, HGM.out, rfl⟩))
        have b8 := (Below.refl w7.heap.size w7).alloc (Nat.le_refl _) (.cells #[.string g.nm, .slice A (runP g.p).st.marks.length cc, .int .u8 ((outV g.p).1 : Int), .int .i64 (outV g.p).2, .bool (!decide (stN g.p (st i) < k))] 56)
        have HSRC := Lib.hid (srcRep w7 [.string g.nm, .slice A (runP g.p).st.marks.length cc, .int .u8 ((outV g.p).1 : Int), .int .i64 (outV g.p).2, .bool (!decide (stN g.p (st i) < k))] rfl (by simp [Value.oneCell']) 56)
        have hR8 := hR7.off (S := []) (Off.of_below b8) (by simp)
        have HR8 := Lib.hid hR8
        have HO8 := Lib.hid hR8.1
        have HM8 := Lib.hid (hmo.below b8)
        have HMN := Lib.hid hmn
        have HX8 := Lib.hid (hX9.below b8)
        have HOF8 := Lib.hid (hof9.trans (Off.of_below b8))
        have HRE := Lib.hid hRe
        have hbb : w.heap.size ≤ (w7.alloc (.cells #[.string g.nm, .slice A (runP g.p).st.marks.length cc, .int .u8 ((outV g.p).1 : Int), .int .i64 (outV g.p).2, .bool (!decide (stN g.p (st i) < k))] 56)).heap.size := HOF8.out.size
        clear ho7 hof7 hbk7 hmk hRc hX8 hX9 hR7 hmo hmn hof9 b8 hR8 hRe
        go_wp2_with (refine wpList_append_s Tryd.underlying48 hiR hR0 hR1 hR2 rfl rfl (.tmp 21) (.tmp 25) rfl rfl HO8.out (some ⟨w7.heap.size, 0, none⟩) 1 1 _ rfl HSRC.out (fun e => by cases e) (by omega) (by omega) hbb ?_)
        intro A3 c3 w8 ho8 hf8 hbk8
        have hfin := RepsN.snoc (A' := A3) (c' := c3) HR8.out HM8.out HMN.out (by rw [HRC.out]; exact ho8) hf8 (fun y hy => (hbk8 y hy).imp id (fun q => by have := q.1; simp only [World.size_alloc] at this ⊢; omega))
        have HFIN := Lib.hid hfin
        have HXF := Lib.hid (HX8.out.offN HX.out hf8 (fun y hy => (HO8.out.lt y hy).1))
        have HOFF := Lib.hid (HOF8.out.join hf8 (fun y hy => Or.inr (HO8.out.lt y hy).1))
        have hre : (rs ++ [R]).map RpM.r = firesV gs st k (i + 1) := by
          rw [List.map_append, HRS.out, firesV_succ, HFV.out, HRE.out]
          rfl
        have HRR := Lib.hid hre
        have HL2 : Hid ((rs ++ [R]).length = rs.length + 1) := Lib.hid (by simp)
        clear ho8 hf8 hbk8 hfin hre
        go_wp2
        go_roundw
        case rel => exact ⟨i + 1, by omega, rfl, A3, c3, rs.length + 1, rfl, ⟨rs ++ [R], HL2.out.symm, HFIN.out, HRR.out, by rw [HL2.out]; omega⟩, HXF.out, HOFF.out⟩
        case measure => simp [intOf]; omega
      · have hd : decide (st i < k) = false := decide_eq_false hon
        have hfv : fireV gs st k i = [] := by unfold fireV; rw [hg]; simp only; rw [if_neg hon]
        have hhv : hitV gs st k i = st i := by unfold hitV; rw [hg]; simp only; rw [if_neg hon]
        have hX9 : RingX wr.drew B rb mb (some ⟨ab, ao, none⟩) hc gs k ns (afterV gs st k (i + 1)) := by
          rw [← afterV_succ, hhv]
          have e : (fun j => if j = i then st i else afterV gs st k i j) = afterV gs st k i := by
            funext j
            by_cases h : j = i
            · subst h; rw [if_pos rfl, afterV_at]
            · rw [if_neg h]
          rw [e]
          exact hX1
        have HX9 := Lib.hid hX9
        have HFV := Lib.hid hfv
        clear hX hof hR hrs hcl kb kp bd hX1 hg hgm hpg hfv hhv hon hX9
        go_wp2_with fail
        with_reducible refine HON.out.mono ?_
        rintro e w6 ⟨rfl, rfl⟩
        rw [hd]
        have HR9 := Lib.hid (HR.out.off (S := []) (Off.of_below (Below.refl wr.heap.size wr).drew) (by simp))
        have HO9 := Lib.hid (HOF.out.drew)
        go_wp2
        go_roundw
        case rel => exact ⟨i + 1, by omega, rfl, A', c', rs.length, rfl, ⟨rs, rfl, HR9.out, by rw [firesV_succ, HFV.out, List.append_nil]; exact HRS.out, by omega⟩, HX9.out, HO9.out⟩
        case measure => simp [intOf]; omega
    · obtain rfl : i = gs.length := by omega
      have hii : ¬ (gs.length : Int) < (gs.length : Int) := by omega
      clear hX hof hR hrs
      go_wp2
      go_ret2
      exact ⟨A', c', rs.length, rfl, ⟨rs, rfl, HR.out, HRS.out⟩, HXX.out, HOF.out⟩
end Go.Proofs.YtifldnkcheobhaaDoor
