/- Two rows that grow in one drawn statement. -/
import Derived.Test.YtpeijhlheencnaaScrM
import Derived.Test.YtpeijhlheencnaaPermD
import Derived.Deep.AppendLies
namespace Go.Proofs.Ytpeijhlheencnaa
open Go.RowKit
set_option maxRecDepth 100000
set_option linter.unusedVariables false

/-- While two rows grow: both as they stand; all else is as it was. -/
structure Mid (wr : World) (o1 o2 : Option Nat) (base : Nat) (T1 T2 : TypeId) (k1 k2 : Nat) (W : World) (B : Option Addr) (nb cb : Nat) (bs : List Value) (C : Option Addr) (nc cc : Nat) (cs : List Value) : Prop where
  own1 : OwnC W base T1 k1 B nb cb bs
  own2 : OwnC W base T2 k2 C nc cc cs
  stay : ∀ b, b < wr.heap.size → o1 ≠ some b → o2 ≠ some b → W.heap[b]? = wr.heap[b]?
  ne : ∀ b, ob B = some b → ob C ≠ some b
  mv1 : ob B = o1 ∨ ∃ b, ob B = some b ∧ wr.heap.size ≤ b
  mv2 : ob C = o2 ∨ ∃ b, ob C = some b ∧ wr.heap.size ≤ b
  bel : Below base wr W
  size : wr.heap.size ≤ W.heap.size
  le : base ≤ wr.heap.size
/-- An element that is laid apart from the other row. -/
structure El (W : World) (o : Option Nat) (g : Nat) (vs : List Value) : Prop where
  lt : g < W.heap.size
  ne : o ≠ some g
  cell : ∀ j u, vs[j]? = some u → W.cell? ⟨g, j, none⟩ = some u

section
variable {wr W W' : World} {o1 o2 o o' : Option Nat} {base : Nat} {T1 T2 : TypeId} {k1 k2 : Nat} {B B' : Option Addr} {nb cb nb' cb' : Nat} {bs bs' : List Value} {C C' : Option Addr} {nc cc nc' cc' : Nat} {cs cs' : List Value} {g : Nat} {vs : List Value}
theorem OwnC.lift {T : TypeId} {k n c : Nat} {A : Option Addr} {xs : List Value} {B : Nat} (h : OwnC W B T k A n c xs) (hs : ∀ b, b < W.heap.size → W'.heap[b]? = W.heap[b]?) (hz : W.heap.size ≤ W'.heap.size) : OwnC W' B T k A n c xs :=
  h.stay (o := none) ⟨hz, fun b hb _ => hs b hb⟩ (fun b _ => by simp)
theorem Mid.drew (h : Mid wr o1 o2 base T1 T2 k1 k2 W B nb cb bs C nc cc cs) : Mid wr o1 o2 base T1 T2 k1 k2 W.drew B nb cb bs C nc cc cs :=
  ⟨h.own1.drewN 1, h.own2.drewN 1, h.stay, h.ne, h.mv1, h.mv2, h.bel.drew, h.size, h.le⟩
theorem Mid.alloc (h : Mid wr o1 o2 base T1 T2 k1 k2 W B nb cb bs C nc cc cs) (x : Obj) : Mid wr o1 o2 base T1 T2 k1 k2 (W.alloc x) B nb cb bs C nc cc cs :=
  have hk := fun b hb => Below.heap_alloc W x b hb
  have hz : W.heap.size ≤ (W.alloc x).heap.size := by simp
  ⟨h.own1.lift hk hz, h.own2.lift hk hz, fun b hb h1 h2 => (hk b (Nat.lt_of_lt_of_le hb h.size)).trans (h.stay b hb h1 h2), h.ne, h.mv1, h.mv2, h.bel.alloc (Nat.le_trans h.le h.size) x, Nat.le_trans h.size hz, h.le⟩
theorem Mid.app1 (h : Mid wr o1 o2 base T1 T2 k1 k2 W B nb cb bs C nc cc cs) (ho : OwnC W' base T1 k1 B' nb' cb' bs') (hb : Below base W W') (hs : Stay W W' (ob B)) (hm : Moved W (ob B) (ob B')) : Mid wr o1 o2 base T1 T2 k1 k2 W' B' nb' cb' bs' C nc cc cs := by
  refine ⟨ho, h.own2.stay hs (fun b hb he => h.ne b he hb), fun b hb h1 h2 => ?_, ?_, ?_, h.mv2, h.bel.trans hb, Nat.le_trans h.size hs.1, h.le⟩
  · refine (hs.2 b (Nat.lt_of_lt_of_le hb h.size) ?_).trans (h.stay b hb h1 h2)
    rcases h.mv1 with e | ⟨c, e, hc⟩
    · rw [e]; exact h1
    · rw [e]; intro he; injection he with he; omega
  · intro b he hc
    rcases hm with e | e
    · rw [e] at he; exact h.ne b he hc
    · rw [e] at he; injection he with he
      have := h.own2.inn b hc
      omega
  · rcases hm with e | e
    · rw [e]; exact h.mv1
    · exact .inr ⟨_, e, h.size⟩
theorem Mid.app2 (h : Mid wr o1 o2 base T1 T2 k1 k2 W B nb cb bs C nc cc cs) (ho : OwnC W' base T2 k2 C' nc' cc' cs') (hb : Below base W W') (hs : Stay W W' (ob C)) (hm : Moved W (ob C) (ob C')) : Mid wr o1 o2 base T1 T2 k1 k2 W' B nb cb bs C' nc' cc' cs' := by
  refine ⟨h.own1.stay hs (fun b hb he => h.ne b hb he), ho, fun b hb h1 h2 => ?_, ?_, h.mv1, ?_, h.bel.trans hb, Nat.le_trans h.size hs.1, h.le⟩
  · refine (hs.2 b (Nat.lt_of_lt_of_le hb h.size) ?_).trans (h.stay b hb h1 h2)
    rcases h.mv2 with e | ⟨c, e, hc⟩
    · rw [e]; exact h2
    · rw [e]; intro he; injection he with he; omega
  · intro b he hc
    rcases hm with e | e
    · rw [e] at hc; exact h.ne b he hc
    · rw [e] at hc; injection hc with hc
      have := h.own1.inn b he
      omega
  · rcases hm with e | e
    · rw [e]; exact h.mv2
    · exact .inr ⟨_, e, h.size⟩
theorem El.new (vs : List Value) (T : TypeId) (h : Inn W o) : El (W.alloc (.cells vs.toArray T)) o W.heap.size vs :=
  ⟨by simp, fun he => absurd (h _ he) (by omega), fun j u hu => by simp [hu]⟩
theorem El.at_ (vs : List Value) (T : TypeId) (h : Inn W o) (hg : W.heap.size = g) : El (W.alloc (.cells vs.toArray T)) o g vs := by subst hg; exact El.new vs T h
theorem El.alloc (h : El W o g vs) (x : Obj) : El (W.alloc x) o g vs :=
  ⟨by have := h.lt; simp; omega, h.ne, fun j u hu => (World.cell?_of_block (w := W) (Below.heap_alloc W x g h.lt)).trans (h.cell j u hu)⟩
theorem El.drew (h : El W o g vs) : El W.drew o g vs := ⟨h.lt, h.ne, h.cell⟩
theorem El.app (h : El W o g vs) (hs : Stay W W' o) (hm : Moved W o o') : El W' o' g vs :=
  ⟨Nat.lt_of_lt_of_le h.lt hs.1, by
    rcases hm with rfl | rfl
    · exact h.ne
    · intro he; injection he with he; have := h.lt; omega, fun j u hu => (World.cell?_of_block (w := W) (hs.2 g h.lt h.ne)).trans (h.cell j u hu)⟩
end

section
variable {ops : Array Oper} {o : Oper} {a : Act} {K : Act → World → Prop} {Q : Exit → Act → World → Prop} {E : Prop} {W : World} {o1 o2 : Option Nat} {wr : World} {base : Nat} {T1 T2 : TypeId} {k1 k2 : Nat} {B C : Option Addr} {nb cb nc cc : Nat} {bs cs : List Value}
theorem step_own (hgd : o.guard = none) (s x : Operand) (t : TypeId)
    (ho : o.op = .call { callee := .builtin .append, args := #[s, x], argTypes := #[t, t] })
    (base : Nat) (e : TypeId) (z : Value) (k bytes : Nat) (ht : Try.prog.underlying t = some (.slice e)) (hinfo : (Try.prog.info? e).map (fun i => (i.zero, i.size, i.bytes)) = some (some z, k, bytes)) (hz : z.cells.size = k) (hk : 0 < k)
    (A : Option Addr) (n c : Nat) (cs : List Value) (hs : a.eval s = .slice A n c) (hown : OwnC W base e k A n c cs)
    (g m : Nat) (vs : List Value) (hx : a.eval x = .slice (some ⟨g, 0, none⟩) 1 m) (hvs : vs.length = k) (hcell : ∀ j u, vs[j]? = some u → W.cell? ⟨g, j, none⟩ = some u) (h1 : ∀ u ∈ vs, u.oneCell' = true)
    (hn : n + 1 ≤ maxLen) (hbytes : (n + 1) * bytes ≤ 140737488355328) (hbase : base ≤ W.heap.size)
    (h : ∀ A' c' w', OwnC w' base e k A' (n + 1) c' (cs ++ vs) → Below base W w' → Stay W w' (ob A) → Moved W (ob A) (ob A') → K (a.put o.dst (.slice A' (n + 1) c')) w') :
    if Region.wanted o (yielded ops a.tmps) = true then Oper.wp Try.prog o a W K Q else E := by
  obtain ⟨i0, hi, hz0, hz1, hz2⟩ := info_parts hinfo
  have hlt := fun k hk => (World.ownsRow.lt hown k hk).1
  refine step_append_lies W hgd s x t ho base e i0 z k bytes ht hi hz0 hz1 hz2 hz hk _ n _ hs hown ⟨g, 0, none⟩ 1 m vs hx (by omega) (fun j u hj => ?_) h1 (by omega) hn hbytes hbase W.heap.size rfl ?_
  · have e2 : (⟨g, 0, none⟩ : Addr).add j = ⟨g, j, none⟩ := by unfold Addr.add; split <;> simp_all
    rw [e2]; exact hcell j u hj
  · intro g' cap' w' h2 h3 h4 h5
    have hb' : Below base W w' := (Below.refl _ _).grown h3 hbase hlt
    have hob : (Value.slice A n c).ownBlock = ob A := by
      rcases hown.2 with ⟨h1, _⟩ | ⟨g', cap', cur', h1, _⟩
      · simp only [Value.slice.injEq] at h1
        rw [h1.1]; rfl
      · simp only [Value.slice.injEq] at h1
        rw [h1.1]; rfl
    rw [hob] at h3 h4
    refine h _ _ _ h2 hb' ⟨h3.size, fun b hb hne => h3.block b hb fun e => hne e.symm⟩ ?_
    rcases h4 with h4 | h4
    · exact .inl h4.symm
    · exact .inr (by rw [h4]; rfl)
/-- The first row's append. -/
theorem step_one1 (hgd : o.guard = none) (s x : Operand) (t : TypeId)
    (ho : o.op = .call { callee := .builtin .append, args := #[s, x], argTypes := #[t, t] }) (hs : a.eval s = .slice B nb cb) (g m : Nat) (hx : a.eval x = .slice (some ⟨g, 0, none⟩) 1 m)
    (hM : Mid wr o1 o2 base T1 T2 k1 k2 W B nb cb bs C nc cc cs) (vs : List Value) (hE : El W (ob C) g vs)
    (z : Value) (bytes : Nat) (ht : Try.prog.underlying t = some (.slice T1)) (hinfo : (Try.prog.info? T1).map (fun i => (i.zero, i.size, i.bytes)) = some (some z, k1, bytes)) (hz : z.cells.size = k1) (hk : 0 < k1)
    (hvs : vs.length = k1) (h1 : ∀ u ∈ vs, u.oneCell' = true) (hn : nb + 1 ≤ maxLen) (hbytes : (nb + 1) * bytes ≤ 140737488355328)
    (h : ∀ A' c' w', Mid wr o1 o2 base T1 T2 k1 k2 w' A' (nb + 1) c' (bs ++ vs) C nc cc cs → (∀ g' vs', El W (ob B) g' vs' → El w' (ob A') g' vs') → K (a.put o.dst (.slice A' (nb + 1) c')) w') :
    if Region.wanted o (yielded ops a.tmps) = true then Oper.wp Try.prog o a W K Q else E :=
  step_own hgd s x t ho base T1 z k1 bytes ht hinfo hz hk B nb cb bs hs hM.own1 g m vs hx hvs hE.cell h1 hn hbytes (Nat.le_trans hM.le hM.size) fun A' c' w' p1 p2 p3 p4 => h A' c' w' (hM.app1 p1 p2 p3 p4) (fun _ _ he => he.app p3 p4)
/-- The second row's append. -/
theorem step_one2 (hgd : o.guard = none) (s x : Operand) (t : TypeId)
    (ho : o.op = .call { callee := .builtin .append, args := #[s, x], argTypes := #[t, t] }) (hs : a.eval s = .slice C nc cc) (g m : Nat) (hx : a.eval x = .slice (some ⟨g, 0, none⟩) 1 m)
    (hM : Mid wr o1 o2 base T1 T2 k1 k2 W B nb cb bs C nc cc cs) (vs : List Value) (hE : El W (ob B) g vs)
    (z : Value) (bytes : Nat) (ht : Try.prog.underlying t = some (.slice T2)) (hinfo : (Try.prog.info? T2).map (fun i => (i.zero, i.size, i.bytes)) = some (some z, k2, bytes)) (hz : z.cells.size = k2) (hk : 0 < k2)
    (hvs : vs.length = k2) (h1 : ∀ u ∈ vs, u.oneCell' = true) (hn : nc + 1 ≤ maxLen) (hbytes : (nc + 1) * bytes ≤ 140737488355328)
    (h : ∀ A' c' w', Mid wr o1 o2 base T1 T2 k1 k2 w' B nb cb bs A' (nc + 1) c' (cs ++ vs) → (∀ g' vs', El W (ob C) g' vs' → El w' (ob A') g' vs') → K (a.put o.dst (.slice A' (nc + 1) c')) w') :
    if Region.wanted o (yielded ops a.tmps) = true then Oper.wp Try.prog o a W K Q else E :=
  step_own hgd s x t ho base T2 z k2 bytes ht hinfo hz hk C nc cc cs hs hM.own2 g m vs hx hvs hE.cell h1 hn hbytes (Nat.le_trans hM.le hM.size) fun A' c' w' p1 p2 p3 p4 => h A' c' w' (hM.app2 p1 p2 p3 p4) (fun _ _ he => he.app p3 p4)
end
theorem psema_info : (Try.prog.info? 52).map (fun i => (i.zero, i.size, i.bytes)) = some (some (.agg #[.int .i64 0, .slice none 0 0]), 2, 32) := by kernel_rfl
theorem int_info : (Try.prog.info? 3).map (fun i => (i.zero, i.size, i.bytes)) = some (some (.int .i64 0), 1, 8) := by kernel_rfl
end Go.Proofs.Ytpeijhlheencnaa
