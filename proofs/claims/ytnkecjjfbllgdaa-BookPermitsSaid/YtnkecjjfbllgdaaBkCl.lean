/- Cells of a book; the document's Same; Do of fitted calls, told by what it answers. -/
import Derived.Test.YtnkecjjfbllgdaaBkS
import Derived.Test.YtnkecjjfbllgdaaParts
import Derived.Test.YtnkecjjfbllgdaaKeys
import Derived.Deep.AppendLies
import Derived.Deep.RegionLaw
import Derived.Laws.IdiomStrings
import Derived.BigRegion
import Derived.Sort.KeysCollected
import Derived.Deep.QuietTactic
import Derived.BigQuiet
import Derived.Test.YtnkecjjfbllgdaaBkTop

/- Cells of a book: rows of cells; copies; an identity out of its text. -/
namespace Go.Proofs.Ytnkecjjfbllgdaa
open Go.RowKit Go.Maps
set_option maxRecDepth 100000
set_option linter.unusedVariables false

/-- A cell as Cells answers it. -/
structure CelR where
  p : Nat
  KA : Option Addr
  kn : Nat
  kc : Nat
  zs : List Nat
  tat : Nat
  HA : Option Addr
  hn : Nat
  hc : Nat
  held : List Int
abbrev noCel : CelR := ⟨0, none, 0, 0, [], 0, none, 0, 0, []⟩
abbrev CelR.id (e : CelR) : List Nat := e.p :: e.zs
abbrev CelR.cel (e : CelR) : CelM := ⟨e.tat, e.held⟩
def CelR.cells (e : CelR) : List Value := [.int .i64 (e.p : Nat), .slice e.KA e.kn e.kc, .int .i64 (e.tat : Nat), .slice e.HA e.hn e.hc]
def FC (l : List CelR) : List Value := l.flatMap CelR.cells
theorem FC_len (l : List CelR) : (FC l).length = l.length * 4 := by
  induction l with
  | nil => rfl
  | cons a l ih => simp [FC, CelR.cells] at *; omega
theorem FC_append (l m : List CelR) : FC (l ++ m) = FC l ++ FC m := by unfold FC; rw [List.flatMap_append]
theorem FC_at (l : List CelR) (i j : Nat) (h : i < l.length) (hj : j < 4) : (FC l)[i * 4 + j]? = (l.getD i noCel).cells[j]? := by
  induction l generalizing i with
  | nil => simp at h
  | cons a l ih =>
    cases i with
    | zero =>
      rw [Nat.zero_mul, Nat.zero_add]
      show (a.cells ++ FC l)[j]? = a.cells[j]?
      rw [List.getElem?_append_left (by simp [CelR.cells]; omega)]
    | succ i =>
      have := ih i (by simpa using h)
      show (a.cells ++ FC l)[(i + 1) * 4 + j]? = _
      rw [List.getElem?_append_right (by simp [CelR.cells]; omega)]
      have e : (i + 1) * 4 + j - a.cells.length = i * 4 + j := by simp [CelR.cells]; omega
      rw [e, this]; rfl
abbrev zC : Value := .agg #[.int .i64 0, .slice none 0 0, .int .i64 0, .slice none 0 0]
theorem cel_info : (Try.prog.info? 75).map (fun i => (i.zero, i.size, i.bytes)) = some (some zC, 4, 64) := by kernel_rfl

/-- An append of one cell, in a region that draws its order. -/
theorem step_append_cel {w : World} {ops : Array Oper} {o : Oper} {a : Act} {K : Act → World → Prop} {Q : Exit → Act → World → Prop} {E : Prop} (hgd : o.guard = none) (s x : Operand)
    (ho : o.op = .call { callee := .builtin .append, args := #[s, x], argTypes := #[46, 46] })
    (base : Nat) (A : Option Addr) (n c : Nat) (cs : List Value) (hs : a.eval s = .slice A n c) (hown : OwnC w base 75 4 A n c cs)
    (g m : Nat) (vs : List Value) (hx : a.eval x = .slice (some ⟨g, 0, none⟩) 1 m) (hvs : vs.length = 4) (hc : BlkL w g vs) (h1 : ∀ u ∈ vs, u.oneCell' = true) (hn : n + 1 ≤ 1000000) (hbase : base ≤ w.heap.size)
    (h : ∀ A' c' w', OwnC w' base 75 4 A' (n + 1) c' (cs ++ vs) → w.grownBy w' (Value.slice A n c).ownBlock → Below base w w' → K (a.put o.dst (.slice A' (n + 1) c')) w') :
    if Region.wanted o (yielded ops a.tmps) = true then Oper.wp Try.prog o a w K Q else E := by
  obtain ⟨i0, hi, hz0, hz1, hz2⟩ := info_parts cel_info
  have hlt := fun k hk => (World.ownsRow.lt hown k hk).1
  refine step_append_lies w hgd s x 46 ho base 75 i0 zC 4 64 Try.underlying46 hi hz0 hz1 hz2 rfl (by decide) _ n _ hs hown ⟨g, 0, none⟩ 1 m vs hx (by omega) (fun j u hj => ?_) h1 (by omega) (by unfold maxLen; omega) (by omega) hbase w.heap.size rfl ?_
  · have e2 : (⟨g, 0, none⟩ : Addr).add j = ⟨g, j, none⟩ := by unfold Addr.add; split <;> simp_all
    rw [e2]; exact hc.cell j u hj
  · intro g' cap' w' h2 h3 h4 h5
    exact h _ _ _ h2 h3 ((Below.refl _ _).grown h3 hbase hlt)
section
variable {w w' : World} {B n c : Nat} {A : Option Addr} {zs : List Nat} {xs : List Int} {row : Option Nat}
theorem OwnB.grown (h : OwnB w B A n c zs) (hg : w.grownBy w' row) (hr : ∀ g, row = some g → ∃ cur fr, w.heap[g]? = some (.cells cur 75 fr)) : OwnB w' B A n c zs := by
  refine ⟨?_, h.2⟩
  rcases h.1 with ⟨h0, h | ⟨g, cap, cur, h1, h2, h3, h4⟩⟩
  · exact ⟨h0, .inl h⟩
  · refine ⟨h0, .inr ⟨g, cap, cur, h1, h2, ?_, h4⟩⟩
    rw [hg.block g (lt_of_block h3) (fun e => ?_)]
    · exact h3
    · obtain ⟨cur', fr, h5⟩ := hr g e.symm
      rw [h3] at h5
      injection h5 with h5
      injection h5 with _ h5 _
      exact absurd h5 (by decide)
theorem OwnI.grown (h : OwnI w B A n c xs) (hg : w.grownBy w' row) (hr : ∀ g, row = some g → ∃ cur fr, w.heap[g]? = some (.cells cur 75 fr)) : OwnI w' B A n c xs := by
  rcases h with ⟨h0, h | ⟨g, cap, cur, h1, h2, h3, h4⟩⟩
  · exact ⟨h0, .inl h⟩
  · refine ⟨h0, .inr ⟨g, cap, cur, h1, h2, ?_, h4⟩⟩
    rw [hg.block g (lt_of_block h3) (fun e => ?_)]
    · exact h3
    · obtain ⟨cur', fr, h5⟩ := hr g e.symm
      rw [h3] at h5
      injection h5 with h5
      injection h5 with _ h5 _
      exact absurd h5 (by decide)
theorem OwnC.rowC {cs : List Value} (h : OwnC w B 75 4 A n c cs) : ∀ g, (Value.slice A n c).ownBlock = some g → ∃ cur fr, w.heap[g]? = some (.cells cur 75 fr) := by
  intro g hg
  rcases h.2 with ⟨h1, _⟩ | ⟨g', cap, cur, h1, h2, h3, _⟩
  · injection h1 with h1; subst h1; simp [Value.ownBlock] at hg
  · injection h1 with h1; subst h1; simp [Value.ownBlock] at hg; subst hg; exact ⟨cur, _, h3⟩
end
/-- slices.Clone of numbers. -/
theorem clone64_any (w : World) (B : Nat) (A : Option Addr) (n c : Nat) (xs : List Int) (h : ArgI w B A n c xs) (hB : B ≤ w.heap.size) (hn : n ≤ 1000000) :
    Calls Try.prog 40 #[.slice A n c] w fun e w' => ∃ A' c', e = .returned (.slice A' n c') ∧ OwnI w' w.heap.size A' n c' xs ∧ Below w.heap.size w w' := by
  have qT : ∀ (w : World) (a : Option Addr) (n c n' c' : Nat), (binOp .eql 53 (.slice a n c) (.slice none n' c')).run Try.prog w = .ok (.bool a.isNone) w := fun w a n c n' c' => Lib.run_eql_slice_nil w _ _ a n c n' c' Try.underlying53
  cases A with
  | none =>
    obtain ⟨rfl, rfl⟩ := h.none_ rfl
    obtain rfl : xs = [] := List.eq_nil_of_length_eq_zero (by have := h.len; omega)
    clear h
    go_enter Try.func40, Try.ntmps40
    go_wp2
    go_ret
    exact ⟨none, 0, rfl, OwnI.nil _ _, Below.refl _ _⟩
  | some ad =>
    have hb0 : Below w.heap.size w (w.alloc (.cells #[] 2)) := (Below.refl _ w).alloc (Nat.le_refl _) _
    have HO := Lib.hid (OwnI.lit w [] (n := 0) rfl (by unfold maxLen; omega))
    have HB0 := Lib.hid hb0
    have G1 := Lib.hid (h.below (hb0.mono hB))
    clear hb0 h
    go_enter Try.func40, Try.ntmps40
    go_wp2_with (refine wpList_append_ints rfl (.tmp 5) (.tmp 6) rfl w.heap.size (some ⟨w.heap.size, 0, none⟩) 0 0 [] rfl HO.out B (some ad) n c xs rfl G1.out (by omega) (by simp) ?_)
    intro B1 d1 w1 ho1 hb1
    have HO1 := Lib.hid (And.intro ho1 (HB0.out.trans hb1))
    clear ho1 hb1
    go_wp2
    go_ret
    exact ⟨B1, d1, by simp, by simpa using HO1.out.1, HO1.out.2⟩
/-- An identity's bytes out of its text. -/
theorem conv_str (w : World) (zs : List Nat) (hz : ∀ d ∈ zs, d < 256) (hn : zs.length ≤ 1000) :
    ∃ c w1, (convert 9 23 (.string (bytesArr zs))).run Try.prog w = .ok (.slice (some ⟨w.heap.size, 0, none⟩) zs.length c) w1 ∧ Arg w1 w1.heap.size (some ⟨w.heap.size, 0, none⟩) zs.length c zs ∧ Below w.heap.size w w1 := by
  have hsz : (bytesArr zs).size = zs.length := by simp [bytesArr, ByteArray.size]
  have hr := run_bytes_of_string (P := Try.prog) w 9 23 5 (bytesArr zs) Try.underlying9 Try.underlying23 Try.underlying5
  rw [hsz] at hr
  refine ⟨_, _, hr, ⟨rfl, grownCap_ge _ _ _ _, grownCap_le_maxLen _ _ _ _ (by unfold maxLen; omega), hz, (fun e => by cases e), fun _ => ⟨w.heap.size, 0, rfl, by simp, fun k hk => ?_⟩⟩, (Below.refl _ _).drew.alloc (Nat.le_refl _) _⟩
  rw [Nat.zero_add]
  have h1 := World.cell?_alloc_mark w.drew (bytesRow (bytesArr zs) (grownCap w zs.length 0 5)) 5 ((bytesRow (bytesArr zs) (grownCap w zs.length 0 5)).size, (bytesRow (bytesArr zs) (grownCap w zs.length 0 5)).size + 1) k
  have h2 := bytesRow_at (bytesArr zs) (grownCap w zs.length 0 5) k (by simp [bytesArr]; exact hk)
  have hs : w.drew.heap.size = w.heap.size := rfl
  rw [hs, h2] at h1
  rw [h1]
  have hd := hz (zs.getD k 0) (by rw [List.getD_eq_getElem?_getD, List.getElem?_eq_getElem hk]; exact List.getElem_mem hk)
  simp [bytesArr, List.getD_eq_getElem?_getD, hk] at hd ⊢
  omega
end Go.Proofs.Ytnkecjjfbllgdaa


/- The identities of a book's map, in order, as mathematics. -/
namespace Go.Proofs.Ytnkecjjfbllgdaa
open Go.RowKit Go.Maps
set_option maxRecDepth 100000
set_option linter.unusedVariables false

abbrev natL (x : List UInt8) : List Nat := x.map UInt8.toNat
theorem natL_lt (x : List UInt8) : ∀ d ∈ natL x, d < 256 := fun d hd => by
  obtain ⟨u, _, rfl⟩ := List.mem_map.1 hd
  exact u.toNat_lt
theorem keyL_nat (x : List UInt8) : keyL (natL x) = .string x := by
  unfold keyL
  rw [List.map_map]
  have : (fun d => UInt8.ofNat d) ∘ UInt8.toNat = id := by funext u; simp
  rw [this, List.map_id]
theorem str_nat (x : List UInt8) : encStr x = .string (bytesArr (natL x)) := by
  unfold encStr bytesArr
  rw [List.map_map]
  have : (fun d => UInt8.ofNat d) ∘ UInt8.toNat = id := by funext u; simp
  rw [this, List.map_id]
/-- The identities, in order. -/
structure IdsOf (M : BkMap) (KL : List (List UInt8)) : Prop where
  sorted : KL.Pairwise (fun a b => leB a b = true)
  nodup : KL.Nodup
  mem : ∀ x, x ∈ KL ↔ (M (natL x)).isSome = true
theorem leB_trans : ∀ a b c : List UInt8, leB a b = true → leB b c = true → leB a c = true := fun a b c h1 h2 => by simp only [leB, decide_eq_true_eq] at *; exact List.le_trans h1 h2
theorem leB_total : ∀ a b : List UInt8, (leB a b || leB b a) = true := fun a b => by simp only [leB, Bool.or_eq_true, decide_eq_true_eq]; exact List.le_total a b
theorem IdsOf.uniq {M : BkMap} {K1 K2 : List (List UInt8)} (h1 : IdsOf M K1) (h2 : IdsOf M K2) : K1 = K2 := by
  refine List.Perm.eq_of_pairwise (le := fun a b => leB a b = true) (fun a b _ _ e1 e2 => ?_) h1.sorted h2.sorted ((List.perm_ext_iff_of_nodup h1.nodup h2.nodup).2 fun x => (h1.mem x).trans (h2.mem x).symm)
  simp only [leB, decide_eq_true_eq] at e1 e2
  exact List.le_antisymm e1 e2
theorem IdsOf.congr {M M' : BkMap} {K : List (List UInt8)} (h : IdsOf M K) (e : ∀ z, (M' z).isSome = (M z).isSome) : IdsOf M' K := ⟨h.sorted, h.nodup, fun x => by rw [e]; exact h.mem x⟩
theorem has_iff {w : World} {D : DataW Value} {M : BkMap} (h : MapR w D M) (x : List UInt8) : Maps.has D (.string x) = true ↔ (M (natL x)).isSome = true := by
  rw [← keyL_nat]
  rcases hm : M (natL x) with _ | c
  · rw [h.no _ (natL_lt x) hm]; simp
  · rw [(h.yes _ _ hm).1]; simp
theorem ids_of {w : World} {mb k : Nat} {D : DataW Value} {M : BkMap} (hown : w.ownsMap Try.prog 9 RV mb k D) (hM : MapR w D M) {ss : List (List UInt8)} (hp : ss.Perm (strKeys D)) : IdsOf M (ss.mergeSort leB) ∧ ss.length = Maps.size D := by
  obtain ⟨es, rfl, hne, _⟩ := World.ownsMap.entries hown keyed
  obtain ⟨es', e', hks⟩ := World.ownsMap.keysOf hown
  simp only [DataW.map.injEq] at e'
  subst e'
  have hk : ∀ p ∈ es, ∃ x, p.1 = .string x := fun p hp => by
    obtain ⟨v, hv⟩ := hks p hp
    obtain ⟨x, _, hx, _⟩ := Maps.keyOf_str (k := 9) Try.underlying9 hv
    exact ⟨x, hx⟩
  have hnd : (strKeys (.map es)).Nodup := by
    show (es.map fun p => strOf p.1).Nodup
    refine List.pairwise_map.2 (hne.imp_of_mem fun {p q} hp' hq' hn e => hn ?_)
    obtain ⟨a, ha⟩ := hk p hp'
    obtain ⟨b, hb⟩ := hk q hq'
    rw [ha, hb] at e ⊢
    exact congrArg _ e
  have hmem : ∀ x, x ∈ strKeys (.map es) ↔ Maps.has (.map es) (.string x) = true := fun x => by
    have hps := perm_strKeys (H := Value) hne hk (ss := (strKeys (.map es))) hnd
    constructor
    · intro hx
      obtain ⟨p, hp, rfl⟩ := List.mem_map.1 (show x ∈ es.map fun p => strOf p.1 from hx)
      obtain ⟨a, ha⟩ := hk p hp
      rw [ha]
      rw [has_eq, List.any_eq_true]
      exact ⟨p, hp, by rw [ha]; exact WideAt.sameKey_self (show WideAt.IsKeyLit (.string a) from trivial)⟩
    · intro hx
      rw [has_eq, List.any_eq_true] at hx
      obtain ⟨p, hp, hs⟩ := hx
      obtain ⟨a, ha⟩ := hk p hp
      have : a = x := by
        rcases Classical.em (a = x) with e | e
        · exact e
        · exfalso
          rw [ha] at hs
          have := sameKey_ne (a := Lit.string a) (b := Lit.string x) (fun h => e (by injection h))
          rw [this] at hs
          cases hs
      show x ∈ es.map fun p => strOf p.1
      exact List.mem_map.2 ⟨p, hp, by rw [ha, ← this]; rfl⟩
  have hpm := (List.mergeSort_perm ss leB).trans hp
  refine ⟨⟨List.pairwise_mergeSort leB_trans leB_total ss, hpm.nodup_iff.2 hnd, fun x => ?_⟩, ?_⟩
  · rw [hpm.mem_iff, hmem x]
    exact has_iff hM x
  · rw [hp.length_eq]
    simp [strKeys, Maps.size]
/-- The cells of a map, in order. -/
structure LstOf (M : BkMap) (L : List CelR) : Prop where
  ids : ∃ KL, IdsOf M KL ∧ L.map CelR.id = KL.map natL
  cel : ∀ e ∈ L, M e.id = some e.cel
abbrev CelR.ent (e : CelR) : List Nat × CelM := (e.id, e.cel)
theorem LstOf.ents {M : BkMap} {L : List CelR} (h : LstOf M L) : L.map (fun e => (e.id, some e.cel)) = (L.map CelR.id).map (fun z => (z, M z)) := by
  rw [List.map_map]
  exact List.map_congr_left fun e he => by simp only [Function.comp]; rw [h.cel e he]
theorem LstOf.uniq {M : BkMap} {L L' : List CelR} (h : LstOf M L) (h' : LstOf M L') : L.map CelR.ent = L'.map CelR.ent := by
  obtain ⟨K1, a1, b1⟩ := h.ids
  obtain ⟨K2, a2, b2⟩ := h'.ids
  obtain rfl := a1.uniq a2
  have e : L.map (fun e => (e.id, some e.cel)) = L'.map (fun e => (e.id, some e.cel)) := by rw [h.ents, h'.ents, b1, b2]
  have := congrArg (List.map fun (p : List Nat × Option CelM) => (p.1, p.2.getD CelM.zero)) e
  simpa [List.map_map, Function.comp_def] using this
end Go.Proofs.Ytnkecjjfbllgdaa


/- Cells of a book. -/
namespace Go.Proofs.Ytnkecjjfbllgdaa
open Go.RowKit Go.Maps
set_option maxRecDepth 100000
set_option linter.unusedVariables false

theorem own_form {w : World} {B k n : Nat} {T : TypeId} {v : Value} {cs : List Value} (h : w.ownsRow B T k v n cs) : ∃ A c, v = .slice A n c ∧ OwnC w B T k A n c cs := by
  have hh := h
  rcases h.2 with ⟨e, e2⟩ | ⟨g, cap, cur, e, _⟩
  · subst e
    have e0 : n = 0 := e2
    subst e0
    exact ⟨none, 0, rfl, hh⟩
  · subst e
    exact ⟨_, _, rfl, hh⟩
theorem OwnC.grownT {w w' : World} {B k n c : Nat} {T : TypeId} {A : Option Addr} {cs : List Value} {row : Option Nat} (h : OwnC w B T k A n c cs) (hT : T ≠ 75) (hg : w.grownBy w' row) (hr : ∀ g, row = some g → ∃ cur fr, w.heap[g]? = some (.cells cur 75 fr)) : OwnC w' B T k A n c cs := by
  rcases h with ⟨h0, h | ⟨g, cap, cur, h1, h2, h3, h4⟩⟩
  · exact ⟨h0, .inl h⟩
  · refine ⟨h0, .inr ⟨g, cap, cur, h1, h2, ?_, h4⟩⟩
    rw [hg.block g (lt_of_block h3) (fun e => ?_)]
    · exact h3
    · obtain ⟨cur', fr, h5⟩ := hr g e.symm
      rw [h3] at h5
      injection h5 with h5
      injection h5 with _ h5 _
      exact absurd h5 hT
/-- Cells in memory of the call's own. -/
def CelsO (w : World) (B : Nat) (L : List CelR) : Prop := ∀ e ∈ L, OwnB w B e.KA e.kn e.kc e.zs ∧ OwnI w B e.HA e.hn e.hc e.held ∧ e.kn ≤ 255 ∧ e.p < 32 ∧ e.tat ≤ 4611686018427387903
/-- How Cells ends. -/
def CelEnd (w : World) (M : BkMap) (k : Nat) (e : Ending) (w' : World) : Prop :=
  ∃ A c L, e = .returned (.slice A k c) ∧ OwnC w' w.heap.size 75 4 A k c (FC L) ∧ LstOf M L ∧ CelsO w' w.heap.size L ∧ Below w.heap.size w w'
theorem look1_any {w : World} {mb k : Nat} {D : DataW Value} {M : BkMap} {z : List Nat} {c : CelM} (h : w.ownsMap Try.prog 9 RV mb k D) (hM : MapR w D M) (hz : M z = some c) (hl : z.length ≤ 1000) :
    ∃ A n kk, ArgI w w.heap.size A n kk c.held ∧ ∀ W, Below w.heap.size w W → (Instr.lookup 69 (.map (some mb)) (.string (bytesArr z)) false).run Try.prog W = .ok (celV c A n kk) W := by
  obtain ⟨h1, A, n, kk, h2, h3, h4⟩ := hM.yes z c hz
  refine ⟨A, n, kk, h3, fun W hb => ?_⟩
  obtain ⟨v, ps, hr, hv⟩ := (own_below h hb).lookup keyed Try.underlying69 (zeroCell W) (zd := .held (.agg #[.int .i64 0, .slice none 0 0])) (zp := []) rfl (key_of hl)
  rw [h2] at hv
  simp only [RV, Option.some.injEq, Prod.mk.injEq, DataW.held.injEq] at hv
  rw [hr, hv.1]
theorem keys_any (w : World) (mb nn : Nat) (D0 : DataW Value) (hown : w.ownsMap Try.prog 9 RV mb nn D0) (hmax : Maps.size D0 ≤ 1000000) :
    Calls Try.prog 37 #[.func (.func 57) #[] #[.pointer (some ⟨w.heap.size, 0, none⟩)]] (w.alloc (.cells #[.map (some mb)] 69)) fun e w' =>
      ∃ (A : Option Addr) (c : Nat) (ss : List (List UInt8)), e = .returned (.slice A ss.length c) ∧ ss.Perm (strKeys D0) ∧ OwnC w' w.heap.size 9 1 A ss.length c ((ss.mergeSort leB).map encStr) ∧ Below w.heap.size w w' := by
  refine ((callsIn_wide (n := 5)).1 (Try.slices_Sorted_keys_37_38 mb nn D0 RV w hown (by unfold maxLen; omega) (by omega))).mono ?_
  rintro e w' ⟨v, ss, rfl, hS, hrow, hnil, hb⟩
  obtain ⟨A, c, rfl, ho⟩ := own_form hrow
  exact ⟨A, c, ss, rfl, hS, ho.mono (by simp), ((Below.refl _ w).alloc (Nat.le_refl _) _).trans (hb.mono (by simp))⟩
theorem keysF_any (w : World) (mb : Nat) : Calls Try.prog 38 #[.map (some mb)] w fun e w' => e = .returned (.func (.func 57) #[] #[.pointer (some ⟨w.heap.size, 0, none⟩)]) ∧ w' = w.alloc (.cells #[.map (some mb)] 69) :=
  (callsIn_wide (n := 5)).1 (Try.maps_Keys_38 (some mb) w)
theorem eqBkC (x : Nat) (w : World) : (binOp .eql 34 (.pointer (some ⟨x, 0, none⟩)) (.pointer none)).run Try.prog w = .ok (.bool false) w := rfl

theorem held_len {p : PolM} {c : CelM} (hp : p.ok) (h : c.ok p) : c.held.length ≤ 64 := by
  rcases hp with h1 | h1
  · rw [h.rate h1.1]; simp
  · have h2 := (h.sema h1.1).2
    have h3 := semB_form h2
    omega
/-- The loop that gathers. -/
structure CeI (w wr : World) (M : BkMap) (KL : List (List UInt8)) (k : Nat) (SA : Option Addr) (sc : Nat) (i : Nat) (A2 : Option Addr) (cc : Nat) (L : List CelR) : Prop where
  len : L.length = i
  ids : L.map CelR.id = (KL.take i).map natL
  cel : ∀ e ∈ L, M e.id = some e.cel
  own : OwnC wr w.heap.size 75 4 A2 i cc (FC L)
  mem : CelsO wr w.heap.size L
  str : OwnC wr w.heap.size 9 1 SA k sc (KL.map encStr)
  low : Below w.heap.size w wr
theorem ce_mid {w wr w2 w3 : World} {M : BkMap} {KL : List (List UInt8)} {k sc i cc : Nat} {SA A2 : Option Addr} {L : List CelR} (h : CeI w wr M KL k SA sc i A2 cc L) {p kn kc tat hn hc : Nat} {KA HA : Option Addr} {zs : List Nat} {held : List Int}
    (hb2 : Below wr.heap.size wr w2) (hk : OwnB w2 wr.heap.size KA kn kc zs) (hb3 : Below w2.heap.size w2 w3) (hh : OwnI w3 w2.heap.size HA hn hc held) (h5 : kn ≤ 255) (h6 : p < 32) (h7 : tat ≤ 4611686018427387903) :
    OwnC (w3.alloc (.cells #[.int .i64 (p : Nat), .slice KA kn kc, .int .i64 (tat : Nat), .slice HA hn hc] 75)) w.heap.size 75 4 A2 i cc (FC L) ∧
      BlkL (w3.alloc (.cells #[.int .i64 (p : Nat), .slice KA kn kc, .int .i64 (tat : Nat), .slice HA hn hc] 75)) w3.heap.size [.int .i64 (p : Nat), .slice KA kn kc, .int .i64 (tat : Nat), .slice HA hn hc] ∧
      CelsO (w3.alloc (.cells #[.int .i64 (p : Nat), .slice KA kn kc, .int .i64 (tat : Nat), .slice HA hn hc] 75)) w.heap.size (L ++ [⟨p, KA, kn, kc, zs, tat, HA, hn, hc, held⟩]) ∧
      OwnC (w3.alloc (.cells #[.int .i64 (p : Nat), .slice KA kn kc, .int .i64 (tat : Nat), .slice HA hn hc] 75)) w.heap.size 9 1 SA k sc (KL.map encStr) ∧
      Below w.heap.size w (w3.alloc (.cells #[.int .i64 (p : Nat), .slice KA kn kc, .int .i64 (tat : Nat), .slice HA hn hc] 75)) ∧ w.heap.size ≤ (w3.alloc (.cells #[.int .i64 (p : Nat), .slice KA kn kc, .int .i64 (tat : Nat), .slice HA hn hc] 75)).heap.size := by
  have hs := h.low.size
  have s2 := hb2.size
  have s3 := hb3.size
  have b23 := hb3.alloc s3 (.cells #[.int .i64 (p : Nat), .slice KA kn kc, .int .i64 (tat : Nat), .slice HA hn hc] 75)
  have ball := hb2.trans (b23.mono s2)
  have bl := h.low.trans (ball.mono hs)
  refine ⟨h.own.below ball, BlkL.new w3 [.int .i64 (p : Nat), .slice KA kn kc, .int .i64 (tat : Nat), .slice HA hn hc] 75, fun e he => ?_, h.str.below ball, bl, bl.size⟩
  rcases List.mem_append.1 he with he | he
  · obtain ⟨g1, g2, g3⟩ := h.mem e he
    exact ⟨g1.below ball, g2.below ball, g3⟩
  · obtain rfl := List.mem_singleton.1 he
    exact ⟨(hk.below b23).mono hs, (hh.below ((Below.refl _ _).alloc (Nat.le_refl _) _)).mono (Nat.le_trans hs s2), h5, h6, h7⟩
theorem kl_get {KL : List (List UInt8)} {i : Nat} (h : i < KL.length) : (KL.map encStr)[i]? = some (.string (bytesArr (natL (KL.getD i [])))) ∧ KL.getD i [] ∈ KL ∧ (KL.take (i + 1)).map natL = (KL.take i).map natL ++ [natL (KL.getD i [])] := by
  have e : KL.getD i [] = KL[i] := by rw [List.getD_eq_getElem?_getD, List.getElem?_eq_getElem h]; rfl
  refine ⟨?_, by rw [e]; exact List.getElem_mem h, ?_⟩
  · rw [List.getElem?_map, List.getElem?_eq_getElem h, e, ← str_nat]; rfl
  · rw [List.take_succ_eq_append_getElem h, List.map_append, e]; rfl

set_option maxHeartbeats 12800000 in
theorem cells_any (w : World) (b n c room mb k : Nat) (A : Option Addr) (l : List PolM) (M : BkMap) (hX : BkX w b A n c l room mb k M) (hk : k ≤ 1000000) :
    Calls Try.prog 21 #[.pointer (some ⟨b, 0, none⟩)] w (CelEnd w M k) := by
  have heq := eqBkC
  obtain ⟨D0, hown, _, hM⟩ := hX.r.map
  have hsz : Maps.size D0 = k := by
    obtain ⟨D', h1, h2⟩ := hX.e
    rw [own_uniq hown h1]
    exact h2
  have hlt := hown.lt
  have hlen := fun ty => hown.len Try.underlying69 ty
  rw [hsz] at hlen
  have b2 := hX.r.blk.cell 2 _ rfl
  have lb := hX.r.blk.lt
  have HX := Lib.hid hX
  have HO := Lib.hid (And.intro hown hM)
  have HZ := Lib.hid hsz
  obtain ⟨i0, hi, hz0, hz1, hby⟩ := info_parts cel_info
  have hnm : k ≤ maxLen := by unfold maxLen; omega
  have hnb : i0.bytes * k ≤ 281474976710656 := by rw [hby]; omega
  clear hX hown hM hsz hlt
  go_enter Try.func21, Try.ntmps21
  go_wp2_with (refine wpList_make_own _ rfl _ _ 46 rfl w.heap.size 75 i0 zC 4 Try.underlying46 hi hz0 hz1 _ _ _ k rfl rfl rfl (by omega) (by omega) (Nat.le_refl _) ?_)
  intro w1 ho1 hg1
  have hb1 : Below w.heap.size w w1 := (Below.refl _ _).grown hg1 (Nat.le_refl _) (fun k hk => by cases hk)
  have c2 := (hb1.cell (p := ⟨b, 2, none⟩) lb).trans b2
  have HO1 := Lib.hid ho1
  have HB1 := Lib.hid hb1
  have HK1 := Lib.hid (keysF_any w1 mb)
  have HK2 := Lib.hid (keys_any w1 mb _ D0 (own_below HO.out.1 hb1) (by have := HZ.out; omega))
  clear ho1 hg1 hb1 b2 hi hz0 hz1 hlen hby hnb
  go_wp2_with fail
  refine HK1.out.mono ?_
  rintro e w2 ⟨rfl, rfl⟩
  go_wp2_with fail
  refine HK2.out.mono ?_
  rintro e w3 ⟨SA, sc, ss, rfl, hperm, hstr, hb3⟩
  obtain ⟨hids, hsl⟩ := ids_of HO.out.1 HO.out.2 hperm
  have hslk : ss.length = k := hsl.trans HZ.out
  have hKL : (ss.mergeSort leB).length = k := by rw [List.length_mergeSort]; exact hslk
  rw [hslk] at hstr ⊢
  generalize ss.mergeSort leB = KL at hids hKL hstr
  have HKL := Lib.hid (And.intro hids hKL)
  have HI : CeI w w3 M KL k SA sc 0 _ k [] := ⟨rfl, by simp, by simp, (show OwnC w1 w.heap.size 75 4 (some ⟨w.heap.size, 0, none⟩) 0 k [] from HO1.out).below hb3, fun e he => by simp at he, hstr.mono HB1.out.size, HB1.out.trans (hb3.mono HB1.out.size)⟩
  have HI := Lib.hid HI
  clear hids hKL hperm hstr hb3 hsl hslk HK1 HK2 c2
  go_wp2_with fail
  go_loopw [3, 25] (fun ov iv wr => ∃ (i : Nat) (A2 : Option Addr) (cc : Nat) (L : List CelR), i ≤ k ∧ iv = .int .i64 (i : Int) ∧ ov = .slice A2 i cc ∧ CeI w wr M KL k SA sc i A2 cc L) (fun _ iv _ => k - (intOf iv).toNat)
  case atStart => exact ⟨0, _, _, [], Nat.zero_le _, rfl, rfl, HI.out⟩
  case round =>
    obtain ⟨i, A2, cc, L, hi, rfl, rfl, hcei⟩ := hrel
    have HC := Lib.hid hcei
    clear hcei HI
    rcases Nat.lt_or_ge i k with hlt | hge
    · obtain ⟨hids, hKL⟩ := HKL.out
      obtain ⟨e1, e2, e3⟩ := kl_get (KL := KL) (i := i) (by omega)
      generalize KL.getD i [] = x at e1 e2 e3
      obtain ⟨cel, hcel⟩ := Option.isSome_iff_exists.1 ((hids.mem x).1 e2)
      have hzb := natL_lt x
      generalize hzz : natL x = z at e1 e3 hcel hzb
      obtain ⟨p, zs, rfl, hp, hzl, hzb', hok⟩ := HX.out.r.inf z cel hcel
      have hp32 : p < 32 := by have := HX.out.r.len; omega
      obtain ⟨sg, soff, rfl, hsg, hsc⟩ := HC.out.str.arg.at_ (by omega)
      have hst := (hsc i (by omega)).trans e1
      have hb := HC.out.low
      have b2 := (hb.cell (p := ⟨b, 2, none⟩) lb).trans (HX.out.r.blk.cell 2 _ rfl)
      obtain ⟨cv, w4, hcv, harg, hb4⟩ := conv_str wr (p :: zs) hzb (by simp; omega)
      have hpt := parts_ok w4 w4.heap.size _ zs.length cv p zs (by simpa using harg) (Nat.le_refl _) hp32 hzl
      obtain ⟨HA, hn, hc, hai, hlk⟩ := look1_any HO.out.1 HO.out.2 hcel (by simp; omega)
      have HPT := Lib.hid hpt
      have HB4 := Lib.hid hb4
      have HE := Lib.hid (And.intro e3 (And.intro hcel (And.intro hzl (And.intro hok.tick hai))))
      have HLK := Lib.hid hlk
      have HOK := Lib.hid hok
      have hpl := hp
      have i0' : (0 : Int) ≤ (i : Int) := by omega
      have i1' : (i : Int) < (k : Int) := by omega
      simp only [List.length_cons] at hcv
      clear hids hKL e1 e2 e3 hcel hzb hp hzl hzb' hok hsg hsc hb harg hb4 hpt hai hlk hzz
      have hpok : (l.getD p noPol).ok := by
        refine polB_ok.1 (List.all_eq_true.1 HX.out.r.okp _ ?_)
        rw [List.getD_eq_getElem?_getD, List.getElem?_eq_getElem hpl]
        exact List.getElem_mem hpl
      have hh64 := held_len hpok HOK.out
      have hhn : hn ≤ 64 := by have := HE.out.2.2.2.2.len; omega
      clear hpok hh64 HOK hpl
      go_wp2_with fail
      refine HPT.out.mono ?_
      rintro e w5 ⟨KA, kc, rfl, hok5, hb5⟩
      have hb45 := HB4.out.trans (hb5.mono HB4.out.size)
      have hlow5 := HC.out.low.trans (hb45.mono HC.out.low.size)
      have b3 := (hlow5.cell (p := ⟨b, 2, none⟩) lb).trans (HX.out.r.blk.cell 2 _ rfl)
      have hl5 := HLK.out w5 hlow5
      have hb6 : Below wr.heap.size wr (w5.alloc (.cells #[.int .i64 (cel.tat : Nat), .slice HA hn hc] 83)).drew := (hb45.alloc hb45.size _).drew
      have hlow6 := HC.out.low.trans (hb6.mono HC.out.low.size)
      have HX6 := Lib.hid (clone64_any (w5.alloc (.cells #[.int .i64 (cel.tat : Nat), .slice HA hn hc] 83)).drew w.heap.size HA hn hc cel.held (HE.out.2.2.2.2.below hlow6) hlow6.size (by omega))
      have KB := Lib.hid (BlkL.new w5 [.int .i64 (cel.tat : Nat), .slice HA hn hc] 83).drew
      have hk6 : OwnB (w5.alloc (.cells #[.int .i64 (cel.tat : Nat), .slice HA hn hc] 83)).drew wr.heap.size KA zs.length kc zs := (hok5.mono HB4.out.size).below ((Below.refl _ _).alloc (Nat.le_refl _) _).drew
      have HMID := Lib.hid (fun (w7 : World) (A' : Option Addr) (c' : Nat) hb7 ho7 => ce_mid (w3 := w7) (HA := A') (hc := c') (hn := hn) (tat := cel.tat) (held := cel.held) HC.out hb6 hk6 hb7 ho7 HE.out.2.2.1 hp32 HE.out.2.2.2.1)
      clear hok5 hb5 hb45 hlow5 hb6 hlow6 hk6 hst b2 hcv HPT HB4 HLK
      go_wp2_with fail
      have q0 := KB.out.cell 0 _ rfl
      have q1 := KB.out.cell 1 _ rfl
      go_region_law (first
        | (refine step_append_cel rfl (.tmp 42) (.tmp 51) rfl w.heap.size A2 i cc (FC L) rfl HO2.out.1 w7.heap.size 1 [.int .i64 (p : Nat), .slice KA zs.length kc, .int .i64 (cel.tat : Nat), .slice A' hn c'] rfl rfl HO2.out.2.1 (by simp [Value.oneCell']) (by omega) HO2.out.2.2.2.2.2 ?_; intro A3 c3 w8 ho3 hg3 hb3; have HO3 := Lib.hid (And.intro ho3 (And.intro hg3 hb3)); clear ho3 hg3 hb3)
        | (go_simp; with_reducible refine (HX6.out).mono ?_; rintro e w7 ⟨A', c', rfl, ho7, hb7⟩; have kb := KB.out.below hb7; have q2 := kb.cell 0 _ rfl; have q3 := kb.cell 1 _ rfl; have HO2 := Lib.hid (HMID.out w7 A' c' hb7 ho7); clear kb ho7 hb7))
      all_goals
        go_wp2
        go_roundw
        case rel =>
          refine ⟨i + 1, A3, c3, L ++ [⟨p, KA, zs.length, kc, zs, cel.tat, A', hn, c', cel.held⟩], by omega, by push_cast; rfl, rfl, ⟨by rw [List.length_append, HC.out.len]; rfl, by rw [List.map_append, HC.out.ids, HE.out.1]; rfl, fun e he => ?_, by rw [FC_append]; exact HO3.out.1, fun e he => ?_, HO2.out.2.2.2.1.grownT (by decide) HO3.out.2.1 (OwnC.rowC HO2.out.1), HO2.out.2.2.2.2.1.trans HO3.out.2.2⟩⟩
          · rcases List.mem_append.1 he with he | he
            · exact HC.out.cel e he
            · obtain rfl := List.mem_singleton.1 he
              exact HE.out.2.1
          · obtain ⟨g1, g2, g3⟩ := HO2.out.2.2.1 e he
            exact ⟨g1.grown HO3.out.2.1 (OwnC.rowC HO2.out.1), g2.grown HO3.out.2.1 (OwnC.rowC HO2.out.1), g3⟩
        case measure => simp [intOf]; omega
    · obtain rfl : i = k := by omega
      obtain ⟨hids, hKL⟩ := HKL.out
      have hfin : LstOf M L := ⟨⟨KL, hids, by rw [HC.out.ids, List.take_of_length_le (by omega)]⟩, HC.out.cel⟩
      have HF := Lib.hid hfin
      clear hfin hids hKL
      go_wp2
      go_ret
      exact ⟨A2, cc, L, rfl, HC.out.own, HF.out, HC.out.mem, HC.out.low⟩
end Go.Proofs.Ytnkecjjfbllgdaa


/- The document's Same and Find of lists of cells. -/
namespace Go.Proofs.Ytnkecjjfbllgdaa
open Go.RowKit Go.Maps
set_option maxRecDepth 100000
set_option linter.unusedVariables false

/-- Cells that are read. -/
structure CelsA (w : World) (B : Nat) (A : Option Addr) (n c : Nat) (L : List CelR) : Prop where
  arg : ArgC w B 4 A n c (FC L)
  mem : ∀ e ∈ L, Arg w B e.KA e.kn e.kc e.zs ∧ ArgI w B e.HA e.hn e.hc e.held
section
variable {w w' : World} {B n c : Nat} {A : Option Addr} {L : List CelR}
theorem CelsA.below (h : CelsA w B A n c L) (hb : Below B w w') : CelsA w' B A n c L := ⟨h.arg.below hb, fun e he => ⟨(h.mem e he).1.below hb, (h.mem e he).2.below hb⟩⟩
theorem CelsA.more (h : CelsA w B A n c L) {B' : Nat} (hb : B ≤ B') : CelsA w B' A n c L := ⟨h.arg.more hb, fun e he => ⟨(h.mem e he).1.more hb, (h.mem e he).2.more hb⟩⟩
theorem CelsA.len (h : CelsA w B A n c L) : L.length = n := by have := h.arg.len; rw [FC_len] at this; omega
theorem CelsA.of (h : OwnC w B 75 4 A n c (FC L)) (hm : CelsO w B L) : CelsA w w.heap.size A n c L := ⟨h.arg, fun e he => ⟨(hm e he).1.arg, (hm e he).2.1.arg⟩⟩
theorem CelsA.drewN (h : CelsA w B A n c L) (t : Nat) : CelsA (w.drewN t) B A n c L := h.below (below_drewN (Below.refl _ _) t)
end
theorem getD_mem {L : List CelR} {i : Nat} (h : i < L.length) : L.getD i noCel ∈ L := by
  rw [List.getD_eq_getElem?_getD, List.getElem?_eq_getElem h]; exact List.getElem_mem h
theorem ent_get {L L' : List CelR} (h : L.map CelR.ent = L'.map CelR.ent) {i : Nat} (hi : i < L.length) (hi' : i < L'.length) : (L.getD i noCel).ent = (L'.getD i noCel).ent := by
  have := congrArg (fun l => l[i]?) h
  simpa [List.getElem?_map, List.getD_eq_getElem?_getD, hi, hi'] using this
set_option maxHeartbeats 3200000 in
theorem celsame_any (w : World) (A A' : Option Addr) (n c n' c' : Nat) (L L' : List CelR) (h : CelsA w w.heap.size A n c L) (h' : CelsA w w.heap.size A' n' c' L') (he : L.map CelR.ent = L'.map CelR.ent) (hn : n ≤ 1000000) :
    Calls Try.prog 20 #[.slice A n c, .slice A' n' c'] w (SameEnd w true) := by
  have hll : L.length = L'.length := by simpa using congrArg List.length he
  have hl := h.len
  have hl' := h'.len
  obtain rfl : n' = n := by omega
  have H1 := Lib.hid (And.intro h h')
  have HE := Lib.hid (And.intro he (And.intro hl hl'))
  clear h h' he hll hl hl'
  go_enter Try.func20, Try.ntmps20
  go_wp2
  go_loopw [13] (fun iv wr => ∃ i t : Nat, i ≤ n' ∧ iv = .int .i64 (i : Int) ∧ wr = w.drewN t) (fun iv _ => n' - (intOf iv).toNat)
  case atStart => exact ⟨0, 0, Nat.zero_le _, rfl, rfl⟩
  case round =>
    obtain ⟨i, t, hi, rfl, hwt⟩ := hrel
    have h1 : CelsA wr w.heap.size A n' c L := by rw [hwt]; exact H1.out.1.drewN t
    have h2 : CelsA wr w.heap.size A' n' c' L' := by rw [hwt]; exact H1.out.2.drewN t
    have HWT := Lib.hid hwt
    clear hwt
    rcases Nat.lt_or_ge i n' with hlt | hge
    · obtain ⟨b, off, rfl, _, hc⟩ := h1.arg.at_ (by omega)
      obtain ⟨b', off', rfl, _, hc'⟩ := h2.arg.at_ (by omega)
      have hf := fun j hj => (hc (i * 4 + j) (by omega)).trans (FC_at L i j (by have := HE.out.2.1; omega) hj)
      have hf' := fun j hj => (hc' (i * 4 + j) (by omega)).trans (FC_at L' i j (by have := HE.out.2.2; omega) hj)
      have hm := h1.mem _ (getD_mem (i := i) (by have := HE.out.2.1; omega))
      have hm' := h2.mem _ (getD_mem (i := i) (by have := HE.out.2.2; omega))
      have hee := ent_get HE.out.1 (i := i) (by have := HE.out.2.1; omega) (by have := HE.out.2.2; omega)
      have e0 := hf 0 (by omega)
      have e1 := hf 1 (by omega)
      have e2 := hf 2 (by omega)
      have e3 := hf 3 (by omega)
      have g0 := hf' 0 (by omega)
      have g1 := hf' 1 (by omega)
      have g2 := hf' 2 (by omega)
      have g3 := hf' 3 (by omega)
      generalize L.getD i noCel = x at hm hee e0 e1 e2 e3
      generalize L'.getD i noCel = y at hm' hee g0 g1 g2 g3
      obtain ⟨p, KA, kn, kc, zs, tat, HA, hn', hc2, held⟩ := x
      obtain ⟨p', KA', kn', kc', zs', tat', HA', hn2, hc3, held'⟩ := y
      simp only [CelR.ent, CelR.id, CelR.cel, Prod.mk.injEq, List.cons.injEq, CelM.mk.injEq] at hee
      obtain ⟨⟨rfl, rfl⟩, rfl, rfl⟩ := hee
      simp only [CelR.cells, List.getElem?_cons_zero, List.getElem?_cons_succ] at e0 e1 e2 e3 g0 g1 g2 g3 hm hm'
      have e0 : wr.cell? ⟨b, off + i * 4, none⟩ = some (.int .i64 (p : Nat)) := e0
      have g0 : wr.cell? ⟨b', off' + i * 4, none⟩ = some (.int .i64 (p : Nat)) := g0
      have e1 : wr.cell? ⟨b, off + i * 4 + 1, none⟩ = some (.slice KA kn kc) := e1
      have e2 : wr.cell? ⟨b, off + i * 4 + 2, none⟩ = some (.int .i64 (tat : Nat)) := e2
      have e3 : wr.cell? ⟨b, off + i * 4 + 3, none⟩ = some (.slice HA hn' hc2) := e3
      have g1 : wr.cell? ⟨b', off' + i * 4 + 1, none⟩ = some (.slice KA' kn' kc') := g1
      have g2 : wr.cell? ⟨b', off' + i * 4 + 2, none⟩ = some (.int .i64 (tat : Nat)) := g2
      have g3 : wr.cell? ⟨b', off' + i * 4 + 3, none⟩ = some (.slice HA' hn2 hc3) := g3
      have HSB := Lib.hid (fun q => show Calls Try.prog 22 #[.slice KA kn kc, .slice KA' kn' kc'] (wr.drewN q) (fun e w' => e = .returned (.bool true) ∧ ∃ m, w' = (wr.drewN q).drewN m) from
        same_any (wr.drewN q) w.heap.size w.heap.size KA KA' kn kc kn' kc' zs zs true (by simp) (hm.1.drewN q) (hm'.1.drewN q))
      have HSI := Lib.hid (fun q => show Calls Try.prog 36 #[.slice HA hn' hc2, .slice HA' hn2 hc3] (wr.drewN q) (fun e w' => e = .returned (.bool true) ∧ ∃ m, w' = (wr.drewN q).drewN m) from
        sameInts_any (wr.drewN q) w.heap.size w.heap.size HA HA' hn' hc2 hn2 hc3 held held true (by simp) (hm.2.drewN q) (hm'.2.drewN q))
      have i0 : (0 : Int) ≤ (i : Int) := by omega
      have i1 : (i : Int) < (n' : Int) := by omega
      have d0 : ((p : Int) != (p : Int)) = false := by simp
      have d2 : ((tat : Int) != (tat : Int)) = false := by simp
      clear hc hc' hf hf' hm hm' h1 h2
      go_wp2_with fail
      go_quiet (first | (go_at_call 22; with_reducible exact Calls.quiet_of (HSB.out _)) | (go_at_call 36; with_reducible exact Calls.quiet_of (HSI.out _)))
      go_wp2
      go_roundw
      case rel => exact ⟨i + 1, _, by omega, by push_cast; rfl, by rw [HWT.out]; exact World.drewN_drewN _ _ _⟩
      case measure => simp [intOf]; omega
    · obtain rfl : i = n' := by omega
      go_wp2
      go_ret
      exact ⟨rfl, t, HWT.out⟩
end Go.Proofs.Ytnkecjjfbllgdaa


/- Do of a fitted call, with its reply told; how many cells a map has. -/
namespace Go.Proofs.Ytnkecjjfbllgdaa
open Go.RowKit Go.Maps
set_option maxRecDepth 100000
set_option linter.unusedVariables false

theorem BkX.cnt {w : World} {b n c room mb k : Nat} {A : Option Addr} {l : List PolM} {M : BkMap} (h : BkX w b A n c l room mb k M) : ∃ KL, IdsOf M KL ∧ KL.length = k := by
  obtain ⟨D, hown, _, hM⟩ := h.r.map
  have hsz : Maps.size D = k := by
    obtain ⟨D', h1, h2⟩ := h.e
    rw [own_uniq hown h1]
    exact h2
  obtain ⟨h1, h2⟩ := ids_of hown hM (List.Perm.refl _)
  exact ⟨_, h1, by rw [List.length_mergeSort]; exact h2.trans hsz⟩
theorem cnt_uniq {w w' : World} {b n c room mb k b' n' c' room' mb' k' : Nat} {A A' : Option Addr} {l l' : List PolM} {M : BkMap} (h : BkX w b A n c l room mb k M) (h' : BkX w' b' A' n' c' l' room' mb' k' M) : k = k' := by
  obtain ⟨K1, a1, a2⟩ := h.cnt
  obtain ⟨K2, b1, b2⟩ := h'.cnt
  rw [← a2, ← b2, a1.uniq b1]
/-- What a fitted call answers. -/
def repF (l : List PolM) (M : BkMap) (o p : Nat) (zs : List Nat) (N : Int) (now : Nat) (s : Int) (k k' : Nat) : RepM :=
  if o ≤ 4 then (cellM (l.getD p noPol) (getB M (p :: zs)) o N now s).1 else if o = 5 then ⟨0, false, (k : Int) - (k' : Int), 0, 0, (now : Nat)⟩ else ⟨0, false, 0, 0, 0, 0⟩
abbrev repX (r : RepM) : Value := .agg #[.int .i64 r.e, .bool r.g, .int .i64 r.l, .int .i64 r.wt, .int .i64 r.s, .int .i64 r.now]
theorem book_fit2 {w : World} {b n c room mb k : Nat} {A : Option Addr} {l : List PolM} {M : BkMap} (hX : BkX w b A n c l room mb k M) (o p kn kc now : Nat) (KA : Option Addr) (zs : List Nat) (N s : Int) (ho : 1 ≤ o ∧ o ≤ 6) (hp : p < l.length) (hkd : kindB o (l.getD p noPol).kind = true)
    (hkey : Arg w w.heap.size KA kn kc zs) (hkn : kn ≤ 255) (hN : o = 1 → isTick N = true) (hnow : now ≤ 4611686018427387903) (hs : 1 ≤ s ∧ s ≤ 4611686018427387903) (hkk : k ≤ 1000000) (hk : o ≤ 4 → (M (p :: zs)).isSome = true ∨ k < room) :
    Calls Try.prog 18 #[.pointer (some ⟨b, 0, none⟩), .agg #[.int .u8 (o : Nat), .int .i64 (p : Nat), .slice KA kn kc, .int .i64 N], .int .i64 (now : Nat), .int .i64 s] w
      fun e w' => ∃ (k' : Nat), e = .returned (repX (repF l M o p zs N now s k k')) ∧ BkX w' b A n c l room mb k' (actM l M o p zs N now s) ∧ k' ≤ k + 1 ∧ Off [mb] w w' := by
  have hroom := hX.r.room
  have hc : o ≤ 4 ∨ o = 5 ∨ o = 6 := by omega
  rcases hc with h4 | rfl | rfl
  · refine (book_do w b n c room mb k o p kn kc now A KA l M N s zs hX (by omega) hp hkd hkey hkn hN hnow (fun _ => hs) hkk (hk h4)).mono ?_
    rintro e w' ⟨he, hb, hf⟩
    have e1 : actM l M o p zs N now s = afterB M (p :: zs) (cellM (l.getD p noPol) (getB M (p :: zs)) o N now s) := by unfold actM; rw [if_neg (by omega), if_neg (by omega)]
    refine ⟨_, ?_, by rw [e1]; exact hb, ?_, hf⟩
    · rw [he]; unfold repF; rw [if_pos h4]
    · unfold sizeB
      split <;> omega
  · refine (book_evict w b n c room mb k kn kc now A KA l M (p : Int) N s hX hnow hkk).mono ?_
    rintro e w' ⟨k', hk', he, hb, hf⟩
    exact ⟨k', by rw [he]; rfl, by unfold actM; rw [if_pos rfl]; exact hb, by omega, hf⟩
  · refine (book_split w b n c room mb k kn kc now A KA l M (p : Int) N s hX hnow).mono ?_
    rintro e w' ⟨he, hb⟩
    exact ⟨k, by rw [he]; rfl, by unfold actM; rw [if_neg (by omega), if_pos rfl]; exact hX.below hb, by omega, Off.of_below hb⟩
/-- A fitted call, its clock, its serial. -/
structure FitV where
  o : Nat
  p : Nat
  A : Option Addr
  m : Nat
  c : Nat
  zs : List Nat
  N : Int
  nw : Nat
  s : Int
def FitV.cells (v : FitV) : List Value := [.int .u8 (v.o : Nat), .int .i64 (v.p : Nat), .slice v.A v.m v.c, .int .i64 v.N, .int .i64 (v.nw : Nat), .int .i64 v.s]
structure FitV.ok (v : FitV) : Prop where
  o : 1 ≤ v.o ∧ v.o ≤ 6
  p : v.p < 2
  p1 : v.o = 2 ∨ v.o = 3 → v.p = 1
  p0 : v.o = 1 → v.p = 0
  m : v.m ≤ 2
  N : v.o = 1 → isTick v.N = true
  nw : v.nw ≤ 4611686018427387903
  s : 1 ≤ v.s ∧ v.s ≤ 4611686018427387903
theorem FitV.ok.kind {v : FitV} (h : v.ok) (l : List PolM) (h0 : (l.getD 0 noPol).kind = 1) (h1 : (l.getD 1 noPol).kind = 2) : kindB v.o (l.getD v.p noPol).kind = true := by
  obtain ⟨o, p, A, m, c, zs, N, nw, s⟩ := v
  have ho := h.o; have hp1 := h.p1; have hp0 := h.p0; have hp := h.p
  simp only at ho hp1 hp0 hp ⊢
  have hc : o = 1 ∨ o = 2 ∨ o = 3 ∨ o = 4 ∨ o = 5 ∨ o = 6 := by omega
  rcases hc with rfl | rfl | rfl | rfl | rfl | rfl
  · rw [hp0 rfl, h0]; rfl
  · rw [hp1 (.inl rfl), h1]; rfl
  · rw [hp1 (.inr rfl), h1]; rfl
  · rfl
  · rfl
  · rfl
theorem fit_abs {w0 : World} {B : Nat} (a : AskV) (h : Arg w0 B a.A a.n a.c a.zs ∧ a.ok) :
    ∃ v : FitV, v.ok ∧ Arg w0 B v.A v.m v.c v.zs ∧ ∀ W, Calls Try.prog 17 #[.agg #[.int .u8 (a.op : Nat), .int .i64 a.q, .slice a.A a.n a.c, .int .i64 a.N, .int .i64 a.now, .int .i64 a.s]] W (ValEnd W (.agg #[.int .u8 (v.o : Nat), .int .i64 (v.p : Nat), .slice v.A v.m v.c, .int .i64 v.N, .int .i64 (v.nw : Nat), .int .i64 v.s])) := by
  obtain ⟨nw, hnw, hnb⟩ : ∃ x : Nat, clampV a.now = (x : Int) ∧ x ≤ 4611686018427387903 := by
    have h2 := isTick_iff.1 (tick_clamp a.now)
    exact ⟨(clampV a.now).toNat, by omega, by omega⟩
  refine ⟨⟨fitOp6 a.op, fitQ (fitOp6 a.op) a.N, a.A, min a.n 2, a.c, a.zs.take (min a.n 2), fitN (fitOp6 a.op) a.N, nw, fitS a.s⟩, ⟨fitOp6_le _, fitQ_lt _ _, fun e => ?_, fun e => ?_, Nat.min_le_right _ _, fitN_tick _ _, hnb, fitS_ge _⟩, h.1.to2 _ (Nat.min_le_left _ _), fun W => ?_⟩
  · simp only at e ⊢
    unfold fitQ
    rw [if_pos (by rcases e with e | e <;> simp [e])]
  · simp only at e ⊢
    unfold fitQ
    rw [if_neg (by rw [e]; simp)]
  · have := fit16_any W a.op a.q a.N a.now a.s a.A a.n a.c h.2.o1 h.2.N1 h.2.w1 h.2.s1 h.1.le
    rw [hnw] at this
    exact this
/-- Do of it, at a clock. -/
theorem do_abs {w : World} {b n c room mb k : Nat} {A : Option Addr} {l : List PolM} {M : BkMap} (hX : BkX w b A n c l room mb k M) (v : FitV) (hv : v.ok) (hl : l.length = 2) (h0 : (l.getD 0 noPol).kind = 1) (h1 : (l.getD 1 noPol).kind = 2) (now : Nat) (hnow : now ≤ 4611686018427387903)
    (hkey : Arg w w.heap.size v.A v.m v.c v.zs) (hkk : k ≤ 1000000) (hk : v.o ≤ 4 → (M (v.p :: v.zs)).isSome = true ∨ k < room) :
    Calls Try.prog 18 #[.pointer (some ⟨b, 0, none⟩), .agg #[.int .u8 (v.o : Nat), .int .i64 (v.p : Nat), .slice v.A v.m v.c, .int .i64 v.N], .int .i64 (now : Nat), .int .i64 v.s] w
      fun e w' => ∃ (k' : Nat), e = .returned (repX (repF l M v.o v.p v.zs v.N now v.s k k')) ∧ BkX w' b A n c l room mb k' (actM l M v.o v.p v.zs v.N now v.s) ∧ k' ≤ k + 1 ∧ Off [mb] w w' :=
  book_fit2 hX v.o v.p v.m v.c now v.A v.zs v.N v.s hv.o (by rw [hl]; exact hv.p) (hv.kind l h0 h1) hkey (by have := hv.m; omega) hv.N hnow hv.s hkk hk
end Go.Proofs.Ytnkecjjfbllgdaa
namespace Go.Proofs.Ytnkecjjfbllgdaa
open Go.ChangeShapes Go.WideShapes Go.ChangeAt Go.RowKit Go.Deep
set_option maxRecDepth 100000
set_option linter.unusedVariables false
/-- A call at a clock that comes in by value. -/
theorem ask16_open {H : Type} {enc : TypeId × Value → H} {W : World} {r : Reach} {b0 : Nat} {v : Value} {d : DataW H} {p : List MemPlace} (hv : Value.okWide Try.prog W r b0 39 v)
    (h : DataW.Trod enc Try.prog W 0 (fun _ => true) true 39 v d p) (hw : ∀ m ∈ d.weights Try.prog 39, m ≤ reachBytes) :
    ∃ y : AskV, (Arg W W.heap.size y.A y.n y.c y.zs ∧ y.ok) ∧ v = .agg #[.int .u8 (y.op : Nat), .int .i64 y.q, .slice y.A y.n y.c, .int .i64 y.N, .int .i64 y.now, .int .i64 y.s] := by
  obtain ⟨cs, rfl, hsz⟩ := okWide_struct Try.underlying39 hv
  obtain ⟨l⟩ := cs
  obtain ⟨fuel, hf⟩ := h
  have hl : l.length = 6 := hsz.trans ask_cells
  have hf' : DataW.trod enc Try.prog W 0 (fun _ => true) true fuel 39 l = some (d, p) := by simpa [Value.cells] using hf
  obtain ⟨o, ho, rfl⟩ := ask_one hl hf' hw
  exact ⟨o, ho, rfl⟩
end Go.Proofs.Ytnkecjjfbllgdaa
