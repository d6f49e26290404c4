/- GuardOrder: the mathematics; a list of hooks that is turned. -/
import Derived.Test.YtifldnkcheobhaaDoorGvQ
namespace Go.Proofs.YtifldnkcheobhaaDoor
open Go.RowKit
set_option maxRecDepth 100000
set_option linter.unusedVariables false
set_option linter.unusedSimpArgs false
set_option maxHeartbeats 4000000

/-- What round n tells of a hook. -/
def hookR (kk n : Nat) (h : HookV) : List RepC := if badV h.p = true ∧ kk < n then [] else [⟨h.nm, (runP h.p).st.marks, (outV h.p).1, (outV h.p).2, badV h.p && decide (n = kk)⟩]
theorem fires_flat (gs : List GH) (kk n : Nat) (hk : 1 ≤ kk) (hn : 1 ≤ n) : firesV gs (stA gs kk n) (kk : Int) gs.length = (gs.map GH.hook).flatMap (hookR kk n) := by
  have key : ∀ m, m ≤ gs.length → firesV gs (stA gs kk n) (kk : Int) m = ((gs.take m).map GH.hook).flatMap (hookR kk n) := by
    intro m
    induction m with
    | zero => intro _; rfl
    | succ m ih =>
      intro hm
      have hg : gs[m]? = some gs[m] := List.getElem?_eq_getElem (by omega)
      rw [firesV_succ, ih (by omega), List.take_succ_eq_append_getElem (by omega), List.map_append, List.flatMap_append]
      congr 1
      obtain ⟨f1, f2⟩ := fire_A gs kk n m hk hn gs[m] hg
      simp only [List.map_cons, List.map_nil, List.flatMap_cons, List.flatMap_nil, List.append_nil]
      unfold hookR
      by_cases hb : badV gs[m].p = true ∧ kk < n
      · rw [if_pos hb]; exact f1 hb
      · rw [if_neg hb]; exact f2 hb
  have := key gs.length (Nat.le_refl _)
  rw [List.take_length] at this
  exact this
theorem hookR_nm (kk n : Nat) (h : HookV) : ∀ r ∈ hookR kk n h, r.nm = h.nm := by
  intro r hr
  unfold hookR at hr
  split at hr
  · cases hr
  · simp at hr; rw [hr]
theorem flat_nodup (kk n : Nat) : ∀ (l : List HookV), (nms l).Nodup → ((l.flatMap (hookR kk n)).map RepC.nm).Nodup := by
  intro l
  induction l with
  | nil => intro _; simp
  | cons a r ih =>
    intro h
    simp only [nms, List.map_cons, List.nodup_cons] at h
    rw [List.flatMap_cons, List.map_append, List.nodup_append]
    refine ⟨?_, ih h.2, fun x hx y hy e => ?_⟩
    · unfold hookR; split <;> simp
    · obtain ⟨p, hp, rfl⟩ := List.mem_map.1 hx
      obtain ⟨q, hq, rfl⟩ := List.mem_map.1 hy
      obtain ⟨b, hb, hq⟩ := List.mem_flatMap.1 hq
      rw [hookR_nm kk n a p hp, hookR_nm kk n b q hq] at e
      exact h.1 (List.mem_map.2 ⟨b, hb, e.symm⟩)
theorem same_name : ∀ {L : List RepC}, (L.map RepC.nm).Nodup → ∀ {x y : RepC}, x ∈ L → y ∈ L → x.nm = y.nm → x = y := by
  intro L hL x y hx hy e
  obtain ⟨i, hi⟩ := List.mem_iff_getElem?.1 hx
  obtain ⟨j, hj⟩ := List.mem_iff_getElem?.1 hy
  have e1 : (L.map RepC.nm)[i]? = some x.nm := by rw [List.getElem?_map, hi]; rfl
  have e2 : (L.map RepC.nm)[j]? = some x.nm := by rw [List.getElem?_map, hj, e]; rfl
  have := (List.getElem?_inj (List.getElem?_eq_some_iff.1 e1).1 hL).1 (e1.trans e2.symm)
  subst this
  rw [hi] at hj
  injection hj
/-- Two places change about. -/
def swapL (l : List HookV) (i j : Nat) : List HookV := match l[i]?, l[j]? with
  | some a, some b => (l.set i b).set j a
  | _, _ => l
theorem swapL_perm (l : List HookV) (i j : Nat) : (swapL l i j).Perm l := by
  unfold swapL
  cases hi : l[i]? with
  | none => exact List.Perm.refl _
  | some a =>
    cases hj : l[j]? with
    | none => exact List.Perm.refl _
    | some b =>
      obtain ⟨h1, rfl⟩ := List.getElem?_eq_some_iff.1 hi
      obtain ⟨h2, rfl⟩ := List.getElem?_eq_some_iff.1 hj
      exact List.set_set_perm h1 h2
theorem swapL_at (l : List HookV) (i j m : Nat) (a b : HookV) (hi : l[i]? = some a) (hj : l[j]? = some b) : (swapL l i j)[m]? = if m = j then some a else if m = i then some b else l[m]? := by
  have h1 := (List.getElem?_eq_some_iff.1 hi).1
  have h2 := (List.getElem?_eq_some_iff.1 hj).1
  unfold swapL
  rw [hi, hj]
  simp only
  rw [List.getElem?_set]
  by_cases e : m = j
  · rw [if_pos e.symm, if_pos e, if_pos (by simpa using h2)]
  · rw [if_neg (fun q => e q.symm), if_neg e, List.getElem?_set]
    by_cases f : m = i
    · rw [if_pos f.symm, if_pos f, if_pos h1]
    · rw [if_neg (fun q => f q.symm), if_neg f]
/-- Cells of hooks: names and programs. -/
def FHk (l : List HookV) (Ps : List Value) : List Value := (l.zip Ps).flatMap fun q => [.string q.1.nm, q.2]
theorem FHk_len : ∀ (l : List HookV) (Ps : List Value), Ps.length = l.length → (FHk l Ps).length = l.length * 2 := by
  intro l
  induction l with
  | nil => intro Ps h; simp [FHk]
  | cons a r ih =>
    intro Ps h
    cases Ps with
    | nil => simp at h
    | cons p q =>
      have := ih q (by simpa using h)
      simp [FHk] at this ⊢
      omega
theorem FHk_at : ∀ (l : List HookV) (Ps : List Value) (i : Nat) (h : HookV) (P : Value), l[i]? = some h → Ps[i]? = some P → (FHk l Ps)[i * 2]? = some (.string h.nm) ∧ (FHk l Ps)[i * 2 + 1]? = some P := by
  intro l
  induction l with
  | nil => intro Ps i h P hh; simp at hh
  | cons a r ih =>
    intro Ps i h P hh hP
    cases Ps with
    | nil => simp at hP
    | cons p q =>
      cases i with
      | zero => simp at hh hP; subst hh; subst hP; simp [FHk]
      | succ i =>
        simp at hh hP
        have := ih q i h P hh hP
        have e1 : (i + 1) * 2 = i * 2 + 1 + 1 := by omega
        rw [e1]
        simpa [FHk] using this
/-- The programs of hooks that came in. -/
theorem HksW.src {w : World} {B c : Nat} {A : Option Addr} {l : List HookV} (h : HksW w B (.slice A l.length c) l) :
    ∃ Ps, Ps.length = l.length ∧ SrcS w 2 A l.length (FHk l Ps) ∧ ∀ (i : Nat) (x : HookV), l[i]? = some x → ∃ P, Ps[i]? = some P ∧ ProgW w B P x.p := by
  obtain ⟨A', c', he, h2, h3⟩ := h
  injection he with e1 e2 e3
  subst e1
  cases A with
  | none =>
    have hl := h2 rfl
    subst hl
    exact ⟨[], rfl, ⟨rfl, fun _ => rfl, (fun ad e => by cases e), fun u hu => by cases hu⟩, fun i x hx => by simp at hx⟩
  | some a =>
    rcases Nat.eq_zero_or_pos l.length with h0 | h0
    · have hl := List.eq_nil_of_length_eq_zero h0
      subst hl
      exact ⟨[], rfl, ⟨rfl, (fun e => by cases e), (fun ad e j u hj => by simp [FHk] at hj), fun u hu => by cases hu⟩, fun i x hx => by simp at hx⟩
    · obtain ⟨k1, k2, k3⟩ := h3 a rfl h0
      have each : ∀ i, i < l.length → ∃ P, w.cell? ⟨a.block, a.off + i * 2 + 1, none⟩ = some P ∧ ProgW w B P (l.getD i ⟨⟨#[]⟩, []⟩).p := by
        intro i hi
        have hx : l[i]? = some l[i] := List.getElem?_eq_getElem hi
        obtain ⟨g1, P, g2, g3⟩ := k3 i _ hx
        exact ⟨P, g2, by rw [List.getD_eq_getElem?_getD, hx]; exact g3⟩
      have hch : ∃ f : Nat → Value, ∀ i, i < l.length → w.cell? ⟨a.block, a.off + i * 2 + 1, none⟩ = some (f i) ∧ ProgW w B (f i) (l.getD i ⟨⟨#[]⟩, []⟩).p :=
        ⟨fun i => if hi : i < l.length then (each i hi).choose else undef, fun i hi => by simp only [hi, dif_pos]; exact (each i hi).choose_spec⟩
      obtain ⟨f, hf⟩ := hch
      have hPl : ((List.range l.length).map f).length = l.length := by simp
      have hPa : ∀ i, i < l.length → ((List.range l.length).map f)[i]? = some (f i) := fun i hi => by rw [List.getElem?_map, List.getElem?_range hi]; rfl
      refine ⟨(List.range l.length).map f, hPl, ⟨FHk_len _ _ hPl, (fun e => by cases e), fun ad e j u hj => ?_, fun u hu => ?_⟩, fun i x hx => ?_⟩
      · injection e with e
        subst e
        have hj2 := (List.getElem?_eq_some_iff.1 hj).1
        rw [FHk_len _ _ hPl] at hj2
        have hi : j / 2 < l.length := by omega
        obtain ⟨x, hx⟩ : ∃ x, l[j / 2]? = some x := ⟨_, List.getElem?_eq_getElem hi⟩
        obtain ⟨f0, f1⟩ := FHk_at l _ _ _ _ hx (hPa _ hi)
        obtain ⟨g1, P, g2, g3⟩ := k3 _ _ hx
        rw [k1, add_litV]
        rcases Nat.mod_two_eq_zero_or_one j with hm | hm
        · have e : j = j / 2 * 2 := by omega
          rw [e, f0] at hj
          injection hj with hj
          subst hj
          rw [e]
          exact g1
        · have e : j = j / 2 * 2 + 1 := by omega
          rw [e, f1] at hj
          injection hj with hj
          subst hj
          rw [show a.off + j = a.off + j / 2 * 2 + 1 from by omega]
          exact (hf _ hi).1
      · simp only [FHk, List.mem_flatMap] at hu
        obtain ⟨q, hq, hu⟩ := hu
        simp at hu
        rcases hu with rfl | rfl
        · rfl
        · have := (List.of_mem_zip hq).2
          obtain ⟨i, hi, hfe⟩ := List.mem_map.1 this
          have hi' : i < l.length := by simpa using hi
          obtain ⟨A3, c3, e3, -⟩ := (hf i hi').2
          rw [← hfe, e3]
          rfl
      · have hi := (List.getElem?_eq_some_iff.1 hx).1
        refine ⟨f i, hPa i hi, ?_⟩
        have := (hf i hi).2
        rw [List.getD_eq_getElem?_getD, hx] at this
        exact this
/-- The law's own list of hooks that came in: the programs lie where they lay. -/
def TurnM (w : World) (B0 B : Nat) (A : Option Addr) (c : Nat) (l : List HookV) : Prop :=
  ∃ vs, OwnS w B 2 A l.length c vs ∧ ∀ (i : Nat) (x : HookV), l[i]? = some x → ∃ P, vs[i * 2]? = some (.string x.nm) ∧ vs[i * 2 + 1]? = some P ∧ ProgW w B0 P x.p
theorem TurnM.w {w : World} {B0 B c : Nat} {A : Option Addr} {l : List HookV} (h : TurnM w B0 B A c l) (hB : B0 ≤ w.heap.size) : HksW w w.heap.size (.slice A l.length c) l := by
  obtain ⟨vs, h2, h3⟩ := h
  have mono : ∀ {P p}, ProgW w B0 P p → ProgW w w.heap.size P p := fun {P p} g => by
    obtain ⟨A, c, k1, k2, k3⟩ := g
    refine ⟨A, c, k1, k2, fun a ha h0 => ?_⟩
    obtain ⟨a1, a2, a3⟩ := k3 a ha h0
    refine ⟨a1, by omega, fun i f hf => ?_⟩
    obtain ⟨F, q1, A2, c2, g1, g2, g3⟩ := a3 i f hf
    refine ⟨F, q1, A2, c2, g1, g2, fun b hb h0 => ?_⟩
    obtain ⟨e1, e2, e3⟩ := g3 b hb h0
    exact ⟨e1, by omega, e3⟩
  refine ⟨A, c, rfl, fun e => List.eq_nil_of_length_eq_zero (h2.none_ e).1, fun a ha h0 => ?_⟩
  obtain ⟨k1, k2, k3, k4, k5⟩ := h2.at_ a ha
  refine ⟨k1, k3, fun i x hx => ?_⟩
  obtain ⟨P, f0, f1, g2⟩ := h3 i x hx
  exact ⟨k5 _ _ f0, P, by rw [Nat.add_assoc]; exact k5 _ _ f1, mono g2⟩
theorem TurnM.below {w w' : World} {B0 B c : Nat} {A : Option Addr} {l : List HookV} (h : TurnM w B0 B A c l) (hB : B0 ≤ w.heap.size) (hb : Below w.heap.size w w') : TurnM w' B0 B A c l := by
  obtain ⟨vs, h2, h3⟩ := h
  refine ⟨vs, h2.below hb, fun i x hx => ?_⟩
  obtain ⟨P, f0, f1, g2⟩ := h3 i x hx
  exact ⟨P, f0, f1, g2.below (hb.mono hB)⟩
theorem TurnM.swap {w : World} {B0 B c tb tf i j : Nat} {l : List HookV} {a b : HookV} {Pa Pb : Value} (h : TurnM w B0 B (some ⟨tb, tf, none⟩) c l) (hB0 : B0 ≤ B) (hi : l[i]? = some a) (hj : l[j]? = some b)
    (hPa : w.cell? ⟨tb, tf + i * 2 + 1, none⟩ = some Pa) (hPb : w.cell? ⟨tb, tf + j * 2 + 1, none⟩ = some Pb) :
    TurnM ((((w.setCell ⟨tb, tf + i * 2, none⟩ (.string b.nm)).setCell ⟨tb, tf + i * 2 + 1, none⟩ Pb).setCell ⟨tb, tf + j * 2, none⟩ (.string a.nm)).setCell ⟨tb, tf + j * 2 + 1, none⟩ Pa) B0 B (some ⟨tb, tf, none⟩) c (swapL l i j) := by
  obtain ⟨vs, h2, h3⟩ := h
  have hil := (List.getElem?_eq_some_iff.1 hi).1
  have hjl := (List.getElem?_eq_some_iff.1 hj).1
  obtain ⟨k1, k2, k3, k4, k5⟩ := h2.at_ _ rfl
  obtain ⟨P1, a0, a1, a2⟩ := h3 i a hi
  obtain ⟨P2, b0, b1, b2⟩ := h3 j b hj
  have e1 : P1 = Pa := by
    have := k5 _ _ a1
    rw [← Nat.add_assoc] at this
    exact Option.some.inj (this.symm.trans hPa)
  have e2 : P2 = Pb := by
    have := k5 _ _ b1
    rw [← Nat.add_assoc] at this
    exact Option.some.inj (this.symm.trans hPb)
  subst e1 e2
  have o1 := h2.set (i * 2) (.string b.nm) (by omega)
  have o2 := o1.set (i * 2 + 1) P2 (by omega)
  have o3 := o2.set (j * 2) (.string a.nm) (by omega)
  have o4 := o3.set (j * 2 + 1) P1 (by omega)
  rw [← Nat.add_assoc, ← Nat.add_assoc] at o4
  have hll : (swapL l i j).length = l.length := (swapL_perm l i j).length_eq
  have hb : Below B w ((((w.setCell ⟨tb, tf + i * 2, none⟩ (.string b.nm)).setCell ⟨tb, tf + i * 2 + 1, none⟩ P2).setCell ⟨tb, tf + j * 2, none⟩ (.string a.nm)).setCell ⟨tb, tf + j * 2 + 1, none⟩ P1) :=
    (((((Off.refl [tb] w).setCell (p := ⟨tb, tf + i * 2, none⟩) (by simp) _).setCell (p := ⟨tb, tf + i * 2 + 1, none⟩) (by simp) _).setCell (p := ⟨tb, tf + j * 2, none⟩) (by simp) _).setCell (p := ⟨tb, tf + j * 2 + 1, none⟩) (by simp) _).below (Nat.le_trans k2 (Nat.le_of_lt k3)) (by simpa using k2)
  have hvl : vs.length = l.length * 2 := h2.len
  refine ⟨_, by rw [hll]; exact o4, fun m x hx => ?_⟩
  rw [swapL_at l i j m a b hi hj] at hx
  have get : ∀ q, ((((vs.set (i * 2) (.string b.nm)).set (i * 2 + 1) P2).set (j * 2) (.string a.nm)).set (j * 2 + 1) P1)[q]? = if j * 2 + 1 = q then some P1 else if j * 2 = q then some (.string a.nm) else if i * 2 + 1 = q then some P2 else if i * 2 = q then some (.string b.nm) else vs[q]? := by
    intro q
    simp only [List.getElem?_set, List.length_set, hvl]
    rw [if_pos (by omega : j * 2 + 1 < l.length * 2), if_pos (by omega : j * 2 < l.length * 2), if_pos (by omega : i * 2 + 1 < l.length * 2), if_pos (by omega : i * 2 < l.length * 2)]
  rw [get, get]
  by_cases c1 : m = j
  · subst c1
    rw [if_pos rfl] at hx
    injection hx with hx
    subst hx
    exact ⟨P1, by rw [if_neg (by omega), if_pos rfl], by rw [if_pos rfl], a2.below (hb.mono hB0)⟩
  · rw [if_neg c1] at hx
    by_cases c2 : m = i
    · subst c2
      rw [if_pos rfl] at hx
      injection hx with hx
      subst hx
      exact ⟨P2, by rw [if_neg (by omega), if_neg (by omega), if_neg (by omega), if_pos rfl], by rw [if_neg (by omega), if_neg (by omega), if_pos rfl], b2.below (hb.mono hB0)⟩
    · rw [if_neg c2] at hx
      obtain ⟨P, f0, f1, f2⟩ := h3 m x hx
      exact ⟨P, by rw [if_neg (by omega), if_neg (by omega), if_neg (by omega), if_neg (by omega)]; exact f0, by rw [if_neg (by omega), if_neg (by omega), if_neg (by omega), if_neg (by omega)]; exact f1, f2.below (hb.mono hB0)⟩
/-- A ring lies where nothing is changed. -/
theorem RingX.offB {w7 w8 : World} {B rb mb : Nat} {hA : Option Addr} {hc : Nat} {gs : List GH} {k : Int} {ns : List ByteArray} {st : Nat → Int} {S : List Nat} (h : RingX w7 B rb mb hA hc gs k ns st) (ho : Off S w7 w8) (hS : ∀ y ∈ S, y < B) :
    RingX w8 B rb mb hA hc gs k ns st :=
  ⟨h.blk.off ho (fun e => by have := hS _ e; have := h.low.1; omega), h.own.off ho (fun y hy e => by have := hS _ e; have := (h.own.lt y hy).1; omega), h.map.off ho (fun e => by have := hS _ e; have := h.low.2.1; omega), fun i g hg => by
    obtain ⟨h1, h2, h3, h4⟩ := h.hks i g hg
    exact ⟨h1.off ho (fun e => by have := hS _ e; have := (h.sep g (List.mem_of_getElem? hg)).1; omega), h2.off h3 ho (fun y hy => Or.inl (by have := hS _ hy; omega)), Nat.le_trans h3 ho.size, h4⟩, h.low, h.sep, h.hh, h.nd⟩
theorem swap_int (i j : Int) (k : Nat) (hk : 0 < k) (hk2 : k ≤ 140737488355328) : ∃ (i1 i2 : Nat), IntKind.u64.wrap i = (i1 : Int) ∧ Int.tmod (i1 : Int) (k : Int) = (i2 : Int) ∧ i2 < k ∧ IntKind.u64.wrap (i2 : Int) = (i2 : Int) ∧ IntKind.i64.wrap (i2 : Int) = (i2 : Int) ∧ (i1 : Int) % (k : Int) = (i2 : Int) := by
  obtain ⟨s, hs⟩ : ∃ s : Nat, i % 18446744073709551616 = (s : Int) := ⟨(i % 18446744073709551616).toNat, by omega⟩
  have hlt : s % k < k := Nat.mod_lt _ hk
  refine ⟨s, s % k, by rw [IntKind.wrap_u64]; exact hs, ?_, hlt, IntWalk.u64_in _ (by omega), IntWalk.i64_in _ (by omega), (Int.natCast_emod s k).symm⟩
  rw [Int.tmod_eq_emod_of_nonneg (by omega)]
  exact (Int.natCast_emod s k).symm
end Go.Proofs.YtifldnkcheobhaaDoor
