/- guard: hooks as mathematics; what New answers; a map of names. -/
import Derived.Test.YtifldnkcheobhaaDoorCaJ
import Derived.Maps.OwnSet
import Derived.StringKeys
namespace Go.Proofs.YtifldnkcheobhaaDoor
open Go.RowKit Go.Maps
set_option maxRecDepth 100000
set_option linter.unusedVariables false
set_option linter.unusedSimpArgs false
set_option maxHeartbeats 4000000

structure HookV where
  nm : ByteArray
  p : List (List ActV)
def okAll (p : List (List ActV)) : Prop := ∀ (i : Nat) (f : List ActV) (x : ActV), p[i]? = some f → x ∈ f → ActOk i p.length x
noncomputable def chkF (p : List (List ActV)) : Nat := if longB p = true then 2 else if p = [] then 3 else @ite _ (okAll p) (Classical.propDecidable _) 0 3
theorem chk_eq {p : List (List ActV)} {r : Nat} (h : ChkV p r) : r = chkF p := by
  unfold chkF
  rcases h with ⟨h1, rfl⟩ | ⟨h1, rfl, rfl⟩ | ⟨h1, h2, ⟨i, f, x, h3, h4, h5⟩, rfl⟩ | ⟨h1, h2, h3, rfl⟩
  · rw [if_pos h1]
  · rw [if_neg (by simp [h1]), if_pos rfl]
  · rw [if_neg (by simp [h1]), if_neg h2, if_neg (fun e => h5 (e i f x h3 h4))]
  · rw [if_neg (by simp [h1]), if_neg h2, if_pos (show okAll p from fun i f x a b => h3 i f x a b)]
theorem chkF_le (p : List (List ActV)) : chkF p ≤ 3 := by
  unfold chkF
  split
  · omega
  · split
    · omega
    · split <;> omega
theorem chkF_ok {p : List (List ActV)} (h : chkF p = 0) (hr : ProgR p) : ProgOk p := by
  unfold chkF at h
  split at h
  · cases h
  · rename_i h1
    split at h
    · cases h
    · rename_i h2
      split at h
      · rename_i h3
        simp only [Bool.not_eq_true] at h1
        simp only [longB, Bool.or_eq_false_iff, decide_eq_false_iff_not, List.any_eq_false] at h1
        refine ⟨by omega, by cases p with | nil => exact absurd rfl h2 | cons a l => simp, fun i f hf => ⟨?_, fun x hx => ⟨h3 i f x hf hx, (hr.2 i f hf).2 x hx |>.2⟩⟩⟩
        have := h1.2 f (List.mem_of_getElem? hf)
        simp at this
        omega
      · cases h
def stepL (a r : Nat) : Nat := if r ≠ 0 ∧ (a = 0 ∨ r < a) then r else a
noncomputable def leastF (l : List HookV) : Nat := l.foldl (fun a h => stepL a (chkF h.p)) 0
theorem stepL_comm (a r s : Nat) : stepL (stepL a r) s = stepL (stepL a s) r := by
  unfold stepL
  repeat' split
  all_goals omega
theorem leastF_perm {l m : List HookV} (h : l.Perm m) : leastF l = leastF m := by
  unfold leastF
  exact h.foldl_eq' (fun x _ y _ z => stepL_comm _ _ _) 0
theorem least_go : ∀ (l : List HookV) (a : Nat), l.foldl (fun a h => stepL a (chkF h.p)) a = 0 → a = 0 ∧ ∀ h ∈ l, chkF h.p = 0 := by
  intro l
  induction l with
  | nil => intro a h; exact ⟨h, fun x hx => by cases hx⟩
  | cons x r ih =>
    intro a h
    obtain ⟨h1, h2⟩ := ih _ h
    dsimp only at h1
    unfold stepL at h1
    split at h1
    · rename_i hc
      exact absurd h1 hc.1
    · rename_i hc
      subst h1
      refine ⟨rfl, fun y hy => ?_⟩
      rcases List.mem_cons.1 hy with rfl | hy
      · rcases Nat.eq_zero_or_pos (chkF y.p) with e | e
        · exact e
        · exact absurd ⟨by omega, Or.inl rfl⟩ hc
      · exact h2 y hy
theorem leastF_zero {l : List HookV} (h : leastF l = 0) : ∀ x ∈ l, chkF x.p = 0 := (least_go l 0 h).2
theorem least_le : ∀ (l : List HookV) (a : Nat), a ≤ 3 → l.foldl (fun a h => stepL a (chkF h.p)) a ≤ 3 := by
  intro l
  induction l with
  | nil => intro a h; exact h
  | cons x r ih =>
    intro a h
    refine ih _ ?_
    show stepL a (chkF x.p) ≤ 3
    unfold stepL
    have := chkF_le x.p
    split <;> omega
theorem leastF_le (l : List HookV) : leastF l ≤ 3 := least_le l 0 (by omega)
def isNm (c : UInt8) : Bool := (decide (97 ≤ c.toNat) && decide (c.toNat ≤ 122)) || (decide (48 ≤ c.toNat) && decide (c.toNat ≤ 57))
def nameB (nm : ByteArray) : Bool := decide (1 ≤ nm.size) && decide (nm.size ≤ 16) && nm.data.toList.all isNm
abbrev nms (l : List HookV) : List ByteArray := l.map HookV.nm
noncomputable def newV (l : List HookV) : Nat :=
  if 32 < l.length then 2 else if leastF l ≠ 0 then leastF l else @ite _ (nms l).Nodup (Classical.propDecidable _) (if l.all (fun h => nameB h.nm) then 0 else 16) 8
theorem all_perm {l m : List HookV} (h : l.Perm m) (f : HookV → Bool) : l.all f = m.all f := by
  rw [Bool.eq_iff_iff, List.all_eq_true, List.all_eq_true]
  exact ⟨fun a x hx => a x (h.mem_iff.2 hx), fun a x hx => a x (h.mem_iff.1 hx)⟩
theorem newV_perm {l m : List HookV} (h : l.Perm m) : newV l = newV m := by
  unfold newV
  rw [h.length_eq, leastF_perm h, all_perm h]
  have hn : (nms l).Nodup ↔ (nms m).Nodup := (h.map HookV.nm).nodup_iff
  split
  · rfl
  · split
    · rfl
    · split
      · rename_i hh
        rw [if_pos (hn.1 hh)]
      · rename_i hh
        rw [if_neg (fun e => hh (hn.2 e))]
theorem newV_zero {l : List HookV} (h : newV l = 0) : l.length ≤ 32 ∧ (∀ x ∈ l, chkF x.p = 0) ∧ (nms l).Nodup ∧ ∀ x ∈ l, nameB x.nm = true := by
  unfold newV at h
  split at h
  · cases h
  · split at h
    · rename_i h2; exact absurd h h2
    · rename_i h1 h2
      split at h
      · rename_i h3
        split at h
        · rename_i h4
          exact ⟨by omega, leastF_zero (by omega), h3, List.all_eq_true.1 h4⟩
        · cases h
      · cases h

/-- A map of names: each has its place. -/
abbrev RV : Value → Option (DataW Value × List MemPlace) := fun v => some (.held v, [])
abbrev keyB (nm : ByteArray) : Lit := .string nm.data.toList
theorem keyB_inj {a b : ByteArray} (h : keyB a = keyB b) : a = b := by
  simp only [keyB, Lit.string.injEq] at h
  cases a; cases b
  simp only [ByteArray.mk.injEq]
  exact Array.toList_inj.1 h
theorem keyB_lit (z : ByteArray) : WideAt.IsKeyLit (keyB z) := trivial
theorem keyedS : Keyed Tryd.prog 9 := string_keyed Tryd.underlying9
theorem keyB_of {z : ByteArray} (hz : z.size ≤ 140737488351232) : keyOf Tryd.prog 9 (.string z) = some (keyB z) :=
  Go.WideMaps.keyOf_string_mk Tryd.underlying9 (by unfold maxLen; omega)
theorem zeroInt (w : World) : (zeroValue 3).run Tryd.prog w = .ok (.int .i64 0) w := by kernel_rfl
def GmR (w : World) (mb : Nat) (ns : List ByteArray) : Prop :=
  ∃ D, w.ownsMap Tryd.prog 9 RV mb (Maps.size D) D ∧ Maps.size D ≤ ns.length ∧ (∀ nm, nm ∉ ns → Maps.has D (keyB nm) = false) ∧ ∀ (i : Nat) nm, ns[i]? = some nm → Maps.has D (keyB nm) = true ∧ ∀ zd, D.atKey (keyB nm) zd = .held (.int .i64 (i : Int))
theorem GmR.lt {w : World} {mb : Nat} {ns : List ByteArray} (h : GmR w mb ns) : mb < w.heap.size := by
  obtain ⟨D, ⟨es, ck, hb, _⟩, _⟩ := h
  exact lt_of_block hb
theorem GmR.off {w w' : World} {mb : Nat} {ns : List ByteArray} {S : List Nat} (h : GmR w mb ns) (ho : Off S w w') (hS : mb ∉ S) : GmR w' mb ns := by
  have hl := h.lt
  obtain ⟨D, ⟨es, ck, hb, r⟩, h2⟩ := h
  exact ⟨D, ⟨es, ck, (ho.block mb hl hS).trans hb, r⟩, h2⟩
theorem GmR.below {w w' : World} {mb B : Nat} {ns : List ByteArray} (h : GmR w mb ns) (hb : Below B w w') (hm : mb < B) : GmR w' mb ns := by
  obtain ⟨D, ⟨es, ck, hq, r⟩, h2⟩ := h
  exact ⟨D, ⟨es, ck, (hb.block mb hm).trans hq, r⟩, h2⟩
theorem GmR.none_ {w : World} {mb : Nat} {ns : List ByteArray} (h : GmR w mb ns) {nm : ByteArray} (hn : nm ∉ ns) (hs : nm.size ≤ 140737488351232) :
    (Instr.lookup 83 (.map (some mb)) (.string nm) true).run Tryd.prog w = .ok (.tuple #[.int .i64 0, .bool false]) w := by
  obtain ⟨D, h1, _, h2, _⟩ := h
  obtain ⟨v, ps, hr, hv⟩ := h1.look_ok keyedS Tryd.underlying83 (zeroInt w) (zd := .held (.int .i64 0)) (zp := []) rfl (keyB_of hs)
  rw [atKey_of_not_has (h2 nm hn)] at hv
  simp only [RV, Option.some.injEq, Prod.mk.injEq, DataW.held.injEq] at hv
  rw [hr, hv.1, h2 nm hn]
theorem GmR.some_ {w : World} {mb : Nat} {ns : List ByteArray} (h : GmR w mb ns) {nm : ByteArray} {i : Nat} (hn : ns[i]? = some nm) (hs : nm.size ≤ 140737488351232) :
    (Instr.lookup 83 (.map (some mb)) (.string nm) true).run Tryd.prog w = .ok (.tuple #[.int .i64 (i : Int), .bool true]) w := by
  obtain ⟨D, h1, _, _, h2⟩ := h
  obtain ⟨g1, g2⟩ := h2 i nm hn
  obtain ⟨v, ps, hr, hv⟩ := h1.look_ok keyedS Tryd.underlying83 (zeroInt w) (zd := .held (.int .i64 0)) (zp := []) rfl (keyB_of hs)
  rw [g2] at hv
  simp only [RV, Option.some.injEq, Prod.mk.injEq, DataW.held.injEq] at hv
  rw [hr, hv.1, g1]
theorem turned_off {w w' : World} {b : Nat} (h : w.mapTurned w' b) : Off [b] w w' :=
  ⟨h.grown.os, h.grown.tape, h.grown.output, h.grown.size, fun i hi hn => h.grown.block i hi (fun e => hn (by injection e with e; simp [e]))⟩
theorem GmR.put {w : World} {mb : Nat} {ns : List ByteArray} (h : GmR w mb ns) {nm : ByteArray} (hn : nm ∉ ns) (hs : nm.size ≤ 140737488351232) (hl : ns.length ≤ 1000) :
    ∃ w', (Instr.mapUpdate 83 (.map (some mb)) (.string nm) (.int .i64 (ns.length : Int))).run Tryd.prog w = .ok () w' ∧ GmR w' mb (ns ++ [nm]) ∧ Off [mb] w w' := by
  obtain ⟨D, h1, hsz, h2, h3⟩ := h
  obtain ⟨w', g1, g2, g3⟩ := h1.store (t := 83) (e := 3) keyedS Tryd.underlying83 (by unfold maxLen; omega) (key := .string nm) (val := .int .i64 (ns.length : Int)) (d := .held (.int .i64 (ns.length : Int))) (ps := []) (keyB_of hs) rfl
  refine ⟨w', g1, ⟨D.put (keyB nm) (.held (.int .i64 (ns.length : Int))), ?_, ?_, ?_, ?_⟩, turned_off g3⟩
  · obtain ⟨es, ck, hb, F, hs, hD⟩ := g2
    refine ⟨es, ck, hb, F, ?_, hD⟩
    rw [hD]
    simp [Maps.size, length_sorted]
  · have := g2.size_le
    simp
    omega
  · intro y hy
    simp only [List.mem_append, List.mem_singleton, not_or] at hy
    rw [has_put_other (fun e => hy.2 (keyB_inj e))]
    exact h2 y hy.1
  · intro i y hy
    rcases Nat.lt_or_ge i ns.length with hi | hi
    · rw [List.getElem?_append_left hi] at hy
      have hne : keyB y ≠ keyB nm := fun e => hn (by rw [← keyB_inj e]; exact List.mem_of_getElem? hy)
      obtain ⟨k1, k2⟩ := h3 i y hy
      exact ⟨by rw [has_put_other hne]; exact k1, fun zd => by rw [atKey_put_other hne]; exact k2 zd⟩
    · rw [List.getElem?_append_right hi] at hy
      obtain ⟨e1, e2⟩ : i = ns.length ∧ nm = y := by
        cases hq : i - ns.length with
        | zero => rw [hq] at hy; simp at hy; exact ⟨by omega, hy⟩
        | succ j => rw [hq] at hy; simp at hy
      subst e1 e2
      exact ⟨has_put_same h1.isMap (keyB_lit nm) _, fun zd => atKey_put_same h1.isMap (keyB_lit nm) _ _⟩
end Go.Proofs.YtifldnkcheobhaaDoor
