/- Contract: done, of any call; what a step brings, against the call done at once. -/
import Derived.Test.YtpjgpiiibgogeaaEnD
import Derived.Test.YtpjgpiiibgogeaaVsM
namespace Go.Proofs.Ytpjgpiiibgogeaa
open Go.RowKit
set_option maxRecDepth 100000
set_option linter.unusedVariables false

structure DoV where
  l : List Ent
  E : Int
  N : Int
def valK (l : List Ent) (ks : List Nat) : Int := if hasK l ks = true then (l.getD (plK l ks) noE).2 else 0
/-- A call done at once. -/
def doV (op : Nat) (ks : List Nat) (x : Int) (l : List Ent) : DoV :=
  if hasK l ks = false ∧ (op = 1 ∨ op = 4) then ⟨l, 7, 0⟩
  else if op = 1 then ⟨l, 0, valK l ks⟩
  else if op = 4 then ⟨cutK l ks, 0, valK l ks⟩
  else if op = 2 then ⟨putK l ks x, 0, x⟩
  else ⟨putK l ks (clampV (valK l ks + x)), 0, clampV (valK l ks + x)⟩
theorem done_any (w : World) (B B' : Nat) (S : List Nat) (A A' : Option Addr) (n c m d : Nat) (es : List KV) (ks : List Nat) (who x : Int) (op : Nat) (ok : OkC op ks x) (h : VerA w B S A n c es) (h' : Arg w B' A' m d ks) (hm : m ≤ 256) (ho : WfL (es.map KV.ent)) (hn : n ≤ 4096) (hB : B ≤ w.heap.size) (hB' : B' ≤ w.heap.size) (hAp : Apt S A' m) (hS : ∀ x ∈ S, x < w.heap.size) :
    Calls Try.prog 50 #[.slice A n c, .agg #[.int .i64 who, .int .u8 (op : Int), .slice A' m d, .int .i64 x]] w (DnEnd w S (doV op ks x (es.map KV.ent)).l (doV op ks x (es.map KV.ent)).E (doV op ks x (es.map KV.ent)).N) := by
  have o1 := ok.o1
  have o4 := ok.o4
  rcases hh : hasK (es.map KV.ent) ks with _ | _
  · rcases (by omega : op = 1 ∨ op = 2 ∨ op = 3 ∨ op = 4) with rfl | rfl | rfl | rfl
    · have := done_none1 w B B' S A A' n c m d es ks who x h h' hm ho hn hB hB' hAp hS hh
      simpa [doV, hh] using this
    · have := done_putfalse w B B' S A A' n c m d es ks who x h h' hm ho hn hB hB' hAp hS hh
      simpa [doV, hh] using this
    · have := done_addfalse w B B' S A A' n c m d es ks who x h h' hm ho hn hB hB' hAp hS hh (ok.v2 (.inr rfl))
      simpa [doV, valK, hh] using this
    · have := done_none4 w B B' S A A' n c m d es ks who x h h' hm ho hn hB hB' hAp hS hh
      simpa [doV, hh] using this
  · rcases (by omega : op = 1 ∨ op = 2 ∨ op = 3 ∨ op = 4) with rfl | rfl | rfl | rfl
    · have := done_get w B B' S A A' n c m d es ks who x h h' hm ho hn hB hB' hAp hS hh
      simpa [doV, valK, hh] using this
    · have := done_puttrue w B B' S A A' n c m d es ks who x h h' hm ho hn hB hB' hAp hS hh
      simpa [doV, hh] using this
    · have := done_addtrue w B B' S A A' n c m d es ks who x h h' hm ho hn hB hB' hAp hS hh (ok.v2 (.inr rfl))
      simpa [doV, valK, hh] using this
    · have := done_drop w B B' S A A' n c m d es ks who x h h' hm ho hn hB hB' hAp hS hh
      simpa [doV, valK, hh] using this

theorem do_of {op : Nat} {ks : List Nat} {x : Int} {l : List Ent} (ok : OkC op ks x) (hl : l.length < 4096) :
    doV op ks x l = ⟨if chgV op (ofV op ks x l).1 = true then (ofV op ks x l).2 else l, ((ofV op ks x l).1.E : Int), (ofV op ks x l).1.N⟩ := by
  have o1 := ok.o1
  have o4 := ok.o4
  have hn : ¬ 4096 ≤ l.length := by omega
  rcases hh : hasK l ks with _ | _
  · rcases (by omega : op = 1 ∨ op = 2 ∨ op = 3 ∨ op = 4) with rfl | rfl | rfl | rfl
    · simp [doV, ofV, chgV, hh]
    · simp [doV, ofV, setV, newV, chgV, hh, hn]
    · have hx := ok.v2 (.inr rfl)
      have hc : clampV x = x := by unfold clampV; omega
      simp [doV, valK, ofV, setV, newV, chgV, hh, hn, hc]
    · simp [doV, ofV, chgV, hh]
  · rcases (by omega : op = 1 ∨ op = 2 ∨ op = 3 ∨ op = 4) with rfl | rfl | rfl | rfl
    · simp [doV, valK, ofV, chgV, hh]
    · simp [doV, ofV, setV, newV, chgV, hh, hn]
    · simp [doV, valK, ofV, setV, newV, chgV, hh, hn]
    · simp [doV, valK, ofV, chgV, hh]
theorem do_len (op : Nat) (ks : List Nat) (x : Int) (l : List Ent) : (doV op ks x l).l.length ≤ l.length + 1 := by
  have h1 := plK_le l ks
  have h2 := fun y => put_len (l := l) ks y
  unfold doV
  split
  · simp
  · split
    · simp
    · split
      · simp [cutK]; omega
      · split
        · simp [h2]
        · simp [h2]

def aoG (v : Nat) (l : List Ent) (op : Nat) (ks : List Nat) (x : Int) : Nx → Prop
  | .none => True
  | .read o k z => o = op ∧ k = ks ∧ z = x
  | .write o k z num made r => o = op ∧ k = ks ∧ z = x ∧ num ≤ v ∧ chgV o r = true ∧ (num = v → ofV o k z l = (r, made))
/-- What a step brings: nothing, or the call done at once. -/
theorem ao_step {v : Nat} {l : List Ent} {op : Nat} {ks : List Nat} {x : Int} {y : Nx} (ok : OkC op ks x) (hl : l.length < 4096) (hg : aoG v l op ks x y) (hp : isNx y = true) {t : StX} (ht : stepX v l y = t) :
    (t.q.d = false ∧ t.q.E = 0 ∧ t.q.N = 0 ∧ t.v = v ∧ t.l = l ∧ aoG v l op ks x t.y ∧ isNx t.y = true) ∨
    (t.q.d = true ∧ doV op ks x l = ⟨t.l, t.q.E, t.q.N⟩ ∧ ((t.v = v ∧ t.l = l) ∨ t.v = v + 1) ∧ t.y = .none) := by
  subst ht
  have hd := do_of ok hl
  cases y with
  | none => simp [isNx] at hp
  | read o k z =>
    obtain ⟨rfl, rfl, rfl⟩ := hg
    rcases hc : chgV o (ofV o k z l).1 with _ | _
    · right
      rw [hc] at hd
      simp only [Bool.false_eq_true, if_false] at hd
      have e : stepX v l (.read o k z) = ⟨⟨true, (ofV o k z l).1.E, (ofV o k z l).1.N⟩, v, l, .none⟩ := by simp [stepX, rdRes, rdNx, hc]
      rw [e]
      exact ⟨rfl, hd, .inl ⟨rfl, rfl⟩, rfl⟩
    · left
      have e : stepX v l (.read o k z) = ⟨⟨false, 0, 0⟩, v, l, .write o k z v (ofV o k z l).2 (ofV o k z l).1⟩ := by simp [stepX, rdRes, rdNx, hc]
      rw [e]
      exact ⟨rfl, rfl, rfl, rfl, rfl, ⟨rfl, rfl, rfl, Nat.le_refl _, hc, fun _ => rfl⟩, rfl⟩
  | write o k z num made r =>
    obtain ⟨rfl, rfl, rfl, hnv, hc, ho⟩ := hg
    by_cases hv : v = num
    · right
      have e : stepX v l (.write o k z num made r) = ⟨⟨true, r.E, r.N⟩, v + 1, made, .none⟩ := if_pos hv
      rw [e]
      rw [ho hv.symm, hc] at hd
      simp only [if_true] at hd
      exact ⟨rfl, hd, .inr rfl, rfl⟩
    · left
      have e : stepX v l (.write o k z num made r) = ⟨⟨false, 0, 0⟩, v, l, .read o k z⟩ := if_neg hv
      rw [e]
      exact ⟨rfl, rfl, rfl, rfl, rfl, ⟨rfl, rfl, rfl⟩, rfl⟩
theorem aoG.on {v v' : Nat} {l l' : List Ent} {op : Nat} {ks : List Nat} {x : Int} {y : Nx} (h : aoG v l op ks x y) (hv : (v' = v ∧ l' = l) ∨ v' = v + 1) : aoG v' l' op ks x y := by
  cases y with
  | none => trivial
  | read o k z => exact h
  | write o k z num made r =>
    obtain ⟨h1, h2, h3, h4, h5, h6⟩ := h
    refine ⟨h1, h2, h3, by omega, h5, fun e => ?_⟩
    rcases hv with ⟨rfl, rfl⟩ | rfl
    · exact h6 e
    · omega
theorem neqR (d d' : Bool) (E N E' N' : Int) (w : World) : (binOp .neq 79 (.agg #[.bool d, .int .i64 E, .int .i64 N]) (.agg #[.bool d', .int .i64 E', .int .i64 N'])).run Try.prog w = .ok (.bool (!decide (d = d' ∧ E = E' ∧ N = N'))) w := by
  by_cases h1 : d = d'
  · subst h1
    by_cases h2 : E = E'
    · subst h2
      by_cases h3 : N = N'
      · subst h3; simp [go_sem, Result.andThen]
      · simp [go_sem, Result.andThen, h3]
    · simp [go_sem, Result.andThen, h2]
  · simp [go_sem, Result.andThen, h1]

theorem Arg.apt_ge {w : World} {B n c : Nat} {A : Option Addr} {zs : List Nat} {S : List Nat} (h : Arg w B A n c zs) (hS : ∀ x ∈ S, B ≤ x) : Apt S A n := by
  intro hn a ha hm
  obtain ⟨b, off, e, hb, _⟩ := h.at_ hn
  rw [ha] at e; cases e
  have := hS _ hm
  simp only at this
  omega
def pkF (pk : Nat → PkV) (j : Nat) : Value := (pk (j / 4)).cells.getD (j % 4) .nilFunc
theorem pkF_at (pk : Nat → PkV) (q j : Nat) (hj : j < 4) : pkF pk (q * 4 + j) = (pk q).cells.getD j .nilFunc := by
  unfold pkF
  rw [show (q * 4 + j) / 4 = q by omega, show (q * 4 + j) % 4 = j by omega]
theorem pkF_set (pk : Nat → PkV) (q : Nat) (p : PkV) : updF (updF (updF (updF (pkF pk) (q * 4) (.int .i64 p.who)) (q * 4 + 1) (.int .u8 (p.op : Int))) (q * 4 + 1 + 1) (.slice p.A p.n p.c)) (q * 4 + 1 + 1 + 1) (.int .i64 p.x) = pkF (updF pk q p) := by
  funext j
  by_cases hq : j / 4 = q
  · have : j = q * 4 ∨ j = q * 4 + 1 ∨ j = q * 4 + 2 ∨ j = q * 4 + 3 := by omega
    unfold pkF
    rw [hq, updF_same]
    rcases this with rfl | rfl | rfl | rfl
    · rw [updF_other _ _ _ _ (by omega), updF_other _ _ _ _ (by omega), updF_other _ _ _ _ (by omega), updF_same, show q * 4 % 4 = 0 by omega]; rfl
    · rw [updF_other _ _ _ _ (by omega), updF_other _ _ _ _ (by omega), updF_same, show (q * 4 + 1) % 4 = 1 by omega]; rfl
    · rw [updF_other _ _ _ _ (by omega), show q * 4 + 2 = q * 4 + 1 + 1 by omega, updF_same, show (q * 4 + 1 + 1) % 4 = 2 by omega]; rfl
    · rw [show q * 4 + 3 = q * 4 + 1 + 1 + 1 by omega, updF_same, show (q * 4 + 1 + 1 + 1) % 4 = 3 by omega]; rfl
  · rw [updF_other _ _ _ _ (by omega), updF_other _ _ _ _ (by omega), updF_other _ _ _ _ (by omega), updF_other _ _ _ _ (by omega)]
    unfold pkF
    rw [updF_other _ _ _ _ hq]

/-- The state of the law ShardAtOnce: its shard, the calls that it has begun, the document's map. -/
structure AoS (w wr : World) (s b bw O k v : Nat) (l : List Ent) (nx : Nat → Nx) (pk : Nat → PkV) (A2 : Option Addr) (c2 : Nat) (es : List KV) : Prop where
  c : ShC w wr s b bw [O] k v l nx
  ob : BlkF wr O 16 (pkF pk)
  on : O ∉ [s, b, bw]
  oge : w.heap.size ≤ O
  good : ∀ j, j < 4 → aoG v l (pk j).op (pk j).zs (pk j).x (nx j)
  ok : ∀ j, j < 4 → isNx (nx j) = true → OkC (pk j).op (pk j).zs (pk j).x ∧ Arg w w.heap.size (pk j).A (pk j).n (pk j).c (pk j).zs ∧ (pk j).n ≤ 256
  doc : VerA wr wr.heap.size [s, b, bw, O] A2 l.length c2 es
  eq : es.map KV.ent = l
section
variable {w wr w' : World} {s b bw O k v k' v' : Nat} {l l' : List Ent} {nx nx' : Nat → Nx} {pk : Nat → PkV} {A2 A3 : Option Addr} {c2 c3 : Nat} {es es' : List KV}
theorem AoS.below (h : AoS w wr s b bw O k v l nx pk A2 c2 es) (hb : Below wr.heap.size wr w') : AoS w w' s b bw O k v l nx pk A2 c2 es :=
  ⟨h.c.below hb, h.ob.off (Off.of_below (S := []) hb) (by simp), h.on, h.oge, h.good, h.ok, (h.doc.below hb).more hb.size, h.eq⟩
theorem AoS.alloc (h : AoS w wr s b bw O k v l nx pk A2 c2 es) (o : Obj) : AoS w (wr.alloc o) s b bw O k v l nx pk A2 c2 es := h.below ((Below.refl _ _).alloc (Nat.le_refl _) _)
theorem AoS.ge (h : AoS w wr s b bw O k v l nx pk A2 c2 es) : ∀ x ∈ [s, b, bw, O], w.heap.size ≤ x := by
  have := h.c.bs; have := h.c.bb; have := h.c.bbw; have := h.oge
  intro x hx
  simp only [List.mem_cons, List.not_mem_nil, or_false] at hx
  rcases hx with rfl | rfl | rfl | rfl <;> assumption
theorem AoS.lt (h : AoS w wr s b bw O k v l nx pk A2 c2 es) : ∀ x ∈ [s, b, bw, O], x < wr.heap.size := by
  obtain ⟨_, _, _, _, _, _, _, hr⟩ := h.c.sh
  exact hr.all
/-- The document's map is another one, which lies elsewhere. -/
theorem AoS.doc' (h : AoS w wr s b bw O k v l nx pk A2 c2 es) (hd : VerA wr wr.heap.size [s, b, bw, O] A3 l.length c3 es') (he : es'.map KV.ent = l) : AoS w wr s b bw O k v l nx pk A3 c3 es' :=
  ⟨h.c, h.ob, h.on, h.oge, h.good, h.ok, hd, he⟩
theorem AoS.start {i : Nat} {p : PkV} (h : AoS w wr s b bw O k v l nx pk A2 c2 es) (hi : i < 4) (ho : OkC p.op p.zs p.x) (ha : Arg w w.heap.size p.A p.n p.c p.zs) (hn : p.n ≤ 256) (hc : ShC w w' s b bw [O] k v l (updF nx i (.read p.op p.zs p.x))) (hf : Off [s, b, bw] wr w') :
    AoS w ((((w'.setCell ⟨O, i * 4, none⟩ (.int .i64 p.who)).setCell ⟨O, i * 4 + 1, none⟩ (.int .u8 (p.op : Int))).setCell ⟨O, i * 4 + 1 + 1, none⟩ (.slice p.A p.n p.c)).setCell ⟨O, i * 4 + 1 + 1 + 1, none⟩ (.int .i64 p.x)) s b bw O k v l (updF nx i (.read p.op p.zs p.x)) (updF pk i p) A2 c2 es := by
  have hO := h.ob.off hf h.on
  have hb := (((hO.set (i * 4) (.int .i64 p.who) (by omega)).set (i * 4 + 1) (.int .u8 (p.op : Int)) (by omega)).set (i * 4 + 1 + 1) (.slice p.A p.n p.c) (by omega)).set (i * 4 + 1 + 1 + 1) (.int .i64 p.x) (by omega)
  rw [pkF_set] at hb
  have hof : Off [O] w' ((((w'.setCell ⟨O, i * 4, none⟩ (.int .i64 p.who)).setCell ⟨O, i * 4 + 1, none⟩ (.int .u8 (p.op : Int))).setCell ⟨O, i * 4 + 1 + 1, none⟩ (.slice p.A p.n p.c)).setCell ⟨O, i * 4 + 1 + 1 + 1, none⟩ (.int .i64 p.x)) :=
    ((((Off.refl _ _).setCell (p := ⟨O, i * 4, none⟩) (by simp) _).setCell (p := ⟨O, i * 4 + 1, none⟩) (by simp) _).setCell (p := ⟨O, i * 4 + 1 + 1, none⟩) (by simp) _).setCell (p := ⟨O, i * 4 + 1 + 1 + 1, none⟩) (by simp) _
  have hd := ((h.doc.off (Nat.le_refl _) (hf.mono (S' := [s, b, bw, O]) (by intro x hx; simp only [List.mem_cons, List.not_mem_nil, or_false] at hx ⊢; rcases hx with h | h | h <;> simp [h]))).more hf.size)
  have hd2 := (hd.off (Nat.le_refl _) (hof.mono (S' := [s, b, bw, O]) (by intro x hx; simp only [List.mem_cons, List.not_mem_nil, or_false] at hx ⊢; simp [hx]))).more hof.size
  refine ⟨hc.putX (by simp) h.on h.oge hof, hb, h.on, h.oge, fun j hj => ?_, fun j hj hjp => ?_, hd2, h.eq⟩
  · by_cases hji : j = i
    · subst hji; rw [updF_same, updF_same]; exact ⟨rfl, rfl, rfl⟩
    · rw [updF_other _ _ _ _ hji, updF_other _ _ _ _ hji]; exact h.good j hj
  · by_cases hji : j = i
    · subst hji; rw [updF_same]; exact ⟨ho, ha, hn⟩
    · rw [updF_other _ _ _ _ hji] at hjp ⊢; exact h.ok j hj hjp
/-- Behind a step with which no call has returned. -/
theorem AoS.step0 {i : Nat} {y : Nx} (h : AoS w wr s b bw O k v l nx pk A2 c2 es) (hi : i < 4) (hp : isNx (nx i) = true) (hg : aoG v l (pk i).op (pk i).zs (pk i).x y) (hc : ShC w w' s b bw [O] k' v l (updF nx i y)) (hf : Off [s, b, bw] wr w') :
    AoS w w' s b bw O k' v l (updF nx i y) pk A2 c2 es := by
  refine ⟨hc, h.ob.off hf h.on, h.on, h.oge, fun j hj => ?_, fun j hj hjp => ?_, ((h.doc.off (Nat.le_refl _) (hf.mono (S' := [s, b, bw, O]) (by intro x hx; simp only [List.mem_cons, List.not_mem_nil, or_false] at hx ⊢; rcases hx with h | h | h <;> simp [h]))).more hf.size), h.eq⟩
  · by_cases hji : j = i
    · subst hji; rw [updF_same]; exact hg
    · rw [updF_other _ _ _ _ hji]; exact h.good j hj
  · by_cases hji : j = i
    · subst hji; exact h.ok j hj hp
    · rw [updF_other _ _ _ _ hji] at hjp; exact h.ok j hj hjp
/-- Behind a step with which a call has returned: all but the document's map. -/
theorem AoS.step1 {i : Nat} (h : AoS w wr s b bw O k v l nx pk A2 c2 es) (hi : i < 4) (hv : (v' = v ∧ l' = l) ∨ v' = v + 1) (hc : ShC w w' s b bw [O] k' v' l' (updF nx i .none)) (hf : Off [s, b, bw] wr w') (hd : VerA w' w'.heap.size [s, b, bw, O] A3 l'.length c3 es') (he : es'.map KV.ent = l') :
    AoS w w' s b bw O k' v' l' (updF nx i .none) pk A3 c3 es' := by
  refine ⟨hc, h.ob.off hf h.on, h.on, h.oge, fun j hj => ?_, fun j hj hjp => ?_, hd, he⟩
  · by_cases hji : j = i
    · subst hji; rw [updF_same]; trivial
    · rw [updF_other _ _ _ _ hji]; exact (h.good j hj).on hv
  · by_cases hji : j = i
    · subst hji; rw [updF_same] at hjp; simp [isNx] at hjp
    · rw [updF_other _ _ _ _ hji] at hjp; exact h.ok j hj hjp
end
theorem entriesC (w0 w : World) (s b bw : Nat) (X : List Nat) (k v : Nat) (l : List Ent) (nx : Nat → Nx) (h : ShC w0 w s b bw X k v l nx) : Calls Try.prog 47 #[.pointer (some ⟨s, 0, none⟩)] w (EntEnd14 w l) := by
  obtain ⟨A, n, c, es, fv, ring, rfl, hr⟩ := h.sh
  exact entries14_any w s b bw X k v A n c es fv nx ring hr
end Go.Proofs.Ytpjgpiiibgogeaa
