/- What the law FrameBack keeps; a reader that is fed, above a bound. -/
import Derived.Test.YtlkkldegbopnpaaFrI
namespace Go.Proofs.Ytlkkldegbopnpaa
open Go.RowKit
set_option maxRecDepth 100000
set_option linter.unusedVariables false

def goodL (l : List (List Nat)) : List (List Nat) := l.filter fun p => decide (1 ≤ p.length) && decide (p.length ≤ 4096)
theorem goodL_mem {l : List (List Nat)} : ∀ p ∈ goodL l, 1 ≤ p.length ∧ p.length ≤ 4096 := by
  intro p hp
  have := (List.mem_filter.1 hp).2
  simpa using this
theorem take_snocL {l : List (List Nat)} {j : Nat} (h : j < l.length) : l.take (j + 1) = l.take j ++ [l.getD j []] := by
  rw [List.take_succ_eq_append_getElem h, List.getD_eq_getElem?_getD, List.getElem?_eq_getElem h]; rfl
theorem goodL_skip {l : List (List Nat)} {j : Nat} (h : j < l.length) (hb : (l.getD j []).length = 0 ∨ 4096 < (l.getD j []).length) : goodL (l.take (j + 1)) = goodL (l.take j) := by
  rw [take_snocL h]
  generalize l.getD j [] = q at *
  unfold goodL
  rw [List.filter_append]
  have : [q].filter (fun p => decide (1 ≤ p.length) && decide (p.length ≤ 4096)) = [] := by
    rw [List.filter_eq_nil_iff]
    intro a ha
    simp only [List.mem_singleton] at ha
    subst ha
    rcases hb with hb | hb
    · simp [hb]
    · simp; omega
  rw [this, List.append_nil]
theorem goodL_take {l : List (List Nat)} {j : Nat} (h : j < l.length) (h1 : 1 ≤ (l.getD j []).length) (h2 : (l.getD j []).length ≤ 4096) : goodL (l.take (j + 1)) = goodL (l.take j) ++ [l.getD j []] := by
  rw [take_snocL h]
  generalize l.getD j [] = q at *
  unfold goodL
  rw [List.filter_append]
  congr 1
  rw [List.filter_eq_self]
  intro a ha
  simp only [List.mem_singleton] at ha
  subst ha
  simp [h1, h2]
def encs (l : List (List Nat)) : List Nat := (l.map Fr.encV).flatten
theorem encs_snoc (l : List (List Nat)) (p : List Nat) : encs (l ++ [p]) = encs l ++ Fr.encV p := by simp [encs]
theorem encs_len {l : List (List Nat)} (h : ∀ p ∈ l, 1 ≤ p.length ∧ p.length ≤ 4096) : (encs l).length ≤ l.length * 4100 := by
  induction l with
  | nil => simp [encs]
  | cons a r ih =>
    have h1 := (h a (by simp)).2
    have h2 := ih fun p hp => h p (by simp [hp])
    simp only [encs, List.map_cons, List.flatten_cons, List.length_append, Fr.encV_len, List.length_cons] at h2 ⊢
    omega
theorem goodL_len (l : List (List Nat)) (j : Nat) : (goodL (l.take j)).length ≤ j := by
  unfold goodL
  have h1 := List.length_filter_le (fun p : List Nat => decide (1 ≤ p.length) && decide (p.length ≤ 4096)) (l.take j)
  have h2 := List.length_take_le j l
  omega

structure AE where
  A : Option Addr
  n : Nat
  c : Nat
  p : List Nat
abbrev AE.val (e : AE) : Value := .slice e.A e.n e.c
/-- What is known in the midst of the first loop: the bytes of all frames, the payloads that are wanted. -/
def FbI (w : World) (ps : List (List Nat)) (j : Nat) (av wv : Value) (wr : World) : Prop :=
  ∃ (AA : Option Addr) (na ca : Nat) (WA : Option Addr) (nw cw : Nat) (es : List AE), av = .slice AA na ca ∧ wv = .slice WA nw cw ∧ Below w.heap.size w wr ∧ OwnV wr w.heap.size AA na ca ((encs (goodL (ps.take j))).map V8) ∧ OwnV wr w.heap.size WA nw cw (es.map AE.val) ∧
    es.map AE.p = goodL (ps.take j) ∧ (∀ e ∈ es, Arg w w.heap.size e.A e.n e.c e.p) ∧ ∀ y ∈ bkV AA, y ∉ bkV WA
/-- The list that is wanted, as it is read. -/
theorem want_arg {w wr : World} {B K : Nat} {WA : Option Addr} {nw cw : Nat} {es : List AE} (ho : OwnV wr B WA nw cw (es.map AE.val)) (he : ∀ e ∈ es, Arg w w.heap.size e.A e.n e.c e.p) (hb : Below w.heap.size w wr) (hK : wr.heap.size ≤ K) :
    ArgL wr K WA nw cw (es.map AE.p) := by
  have hl := ho.len
  rw [List.length_map] at hl
  refine ⟨by simpa using hl, ho.le, ho.cap, ho.none_, fun hn => ?_⟩
  obtain ⟨b, off, e, _, h2, h3, _⟩ := ho.cell hn
  refine ⟨b, off, e, by omega, fun i hi => ?_⟩
  have hr : es[i]? = some es[i] := List.getElem?_eq_getElem (by omega)
  have h4 := he es[i] (List.getElem_mem _)
  refine ⟨_, _, _, h3 i _ (by rw [List.getElem?_map, hr]; rfl), ?_⟩
  have e : (es.map AE.p).getD i [] = es[i].p := by rw [List.getD_eq_getElem?_getD, List.getElem?_map, hr]; rfl
  rw [e]
  exact (h4.below hb).more (by have := hb.size; omega)

/-- Feed of a reader that lies, with all that is its own, from rb on. -/
def FeedQ (w : World) (rb : Nat) (xs zs : List Nat) (e : Ending) (w' : World) : Prop :=
  ∃ PA k kc rs A' n' c', e = .returned (.tuple #[.slice PA k kc, .int .i64 (if (Fr.frV (xs ++ zs)).2.2 then 12 else 0)]) ∧ rs.map (·.p) = (Fr.frV (xs ++ zs)).1 ∧ PayL w' w.heap.size PA k kc rs ∧
    RdM w' rb rb A' n' c' (if (Fr.frV (xs ++ zs)).2.2 then [] else (Fr.frV (xs ++ zs)).2.1) (Fr.frV (xs ++ zs)).2.2 ∧ Below rb w w'
theorem feed_at (w : World) (rb : Nat) (A : Option Addr) (n c : Nat) (xs : List Nat) (S : Option Addr) (m d : Nat) (zs : List Nat) (h : RdM w rb rb A n c xs false) (ha : Arg w w.heap.size S m d zs)
    (hnm : n + m ≤ 140737488355328) (hk : (Fr.frV (xs ++ zs)).1.length * 24 ≤ 140737488355328) :
    Calls Try.prog 34 #[.pointer (some ⟨rb, 0, none⟩), .slice S m d] w (FeedQ w rb xs zs) := by
  have hlt := h.blk.lt
  refine (feed_open w rb rb A n c xs S m d zs h ha (by omega) hnm hk).mono ?_
  rintro e w' ⟨PA, k, kc, rs, A', n', c', h1, h2, h3, h4, h5, h6, h7⟩
  refine ⟨PA, k, kc, rs, A', n', c', h1, h2, h3, h4, h5.below (by omega) fun y hy => ?_⟩
  rcases List.mem_cons.1 hy with rfl | hy
  · exact Nat.le_refl _
  · exact (h.own.lt y hy).1
end Go.Proofs.Ytlkkldegbopnpaa
