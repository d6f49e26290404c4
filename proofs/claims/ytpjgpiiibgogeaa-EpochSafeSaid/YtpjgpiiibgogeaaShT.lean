/- A shard in memory; contracts: isWho, read, write, Pending, Version. -/
import Derived.Test.YtpjgpiiibgogeaaShP
import Derived.Test.YtpjgpiiibgogeaaMaD
namespace Go.Proofs.Ytpjgpiiibgogeaa
open Go.RowKit
set_option maxRecDepth 100000
set_option linter.unusedVariables false

/-- A block known by a function of the index. -/
structure BlkF (w : World) (b n : Nat) (f : Nat → Value) : Prop where
  lt : b < w.heap.size
  cell : ∀ i, i < n → w.cell? ⟨b, i, none⟩ = some (f i)
  froz : ∀ i, i < n → w.frozen? ⟨b, i, none⟩ = false
def updF {α : Type} (f : Nat → α) (i : Nat) (v : α) : Nat → α := fun j => if j = i then v else f j
theorem updF_same {α : Type} (f : Nat → α) (i : Nat) (v : α) : updF f i v i = v := by unfold updF; rw [if_pos rfl]
theorem updF_other {α : Type} (f : Nat → α) (i j : Nat) (v : α) (h : j ≠ i) : updF f i v j = f j := by unfold updF; rw [if_neg h]
section
variable {w w' : World} {b n : Nat} {f : Nat → Value} {S : List Nat}
theorem BlkF.off (h : BlkF w b n f) (hb : Off S w w') (hs : b ∉ S) : BlkF w' b n f :=
  ⟨Nat.lt_of_lt_of_le h.lt hb.size, fun i hi => (hb.cell (p := ⟨b, i, none⟩) h.lt hs).trans (h.cell i hi), fun i hi => (hb.frozen (p := ⟨b, i, none⟩) h.lt hs).trans (h.froz i hi)⟩
theorem BlkF.set (h : BlkF w b n f) (i : Nat) (v : Value) (hi : i < n) : BlkF (w.setCell ⟨b, i, none⟩ v) b n (updF f i v) := by
  refine ⟨by simpa using h.lt, fun j hj => ?_, fun j hj => by simpa using h.froz j hj⟩
  by_cases e : j = i
  · subst e
    rw [World.cell?_setCell_same _ _ _ (h.cell j hj), updF_same]
  · rw [updF_other _ _ _ _ e]
    exact (World.cell?_setCell_other _ _ _ _ (by simp)).trans (h.cell j hj)
end

/-- What a pending call does next. -/
inductive Nx where
  | none
  | read (op : Nat) (ks : List Nat) (v : Int)
  | write (op : Nat) (ks : List Nat) (v : Int) (num : Nat) (made : List Ent) (r : AnsV)
/-- Whether what was asked is of the form. -/
structure OkC (op : Nat) (ks : List Nat) (v : Int) : Prop where
  o1 : 1 ≤ op
  o4 : op ≤ 4
  v2 : op = 2 ∨ op = 3 → 0 ≤ v ∧ v ≤ 4611686018427387903
  kl : ks.length ≤ 256
def ptr (b : Nat) : Value := .pointer (some ⟨b, 0, none⟩)
/-- A function value that does a call's next access. -/
inductive NxV (w : World) (s i : Nat) (S : List Nat) : Nx → Value → Prop where
  | none : NxV w s i S .none .nilFunc
  | read (op : Nat) (ks : List Nat) (v : Int) (p0 p1 p2 : Nat) (kA : Option Addr) (kn kc : Nat) (ok : OkC op ks v) (h0 : BlkL w p0 [.pointer (some ⟨s, 0, none⟩)]) (h1 : BlkL w p1 [.int .i64 (i : Int)]) (h2 : BlkL w p2 [.int .u8 (op : Int), .slice kA kn kc, .int .i64 v])
      (a0 : p0 ∉ S) (a1 : p1 ∉ S) (a2 : p2 ∉ S) (hk : Arg w w.heap.size kA kn kc ks) (ak : Apt S kA kn) (ck : kn ≤ 256) :
      NxV w s i S (.read op ks v) (.func (.func 86) #[] #[.pointer (some ⟨p0, 0, none⟩), .pointer (some ⟨p1, 0, none⟩), .pointer (some ⟨p2, 0, none⟩)])
  | write (op : Nat) (ks : List Nat) (v : Int) (num : Nat) (made : List Ent) (r : AnsV) (p0 p1 p2 p3 p4 p5 : Nat) (kA : Option Addr) (kn kc : Nat) (A : Option Addr) (n c : Nat) (es : List KV) (ok : OkC op ks v) (h0 : BlkL w p0 [.pointer (some ⟨s, 0, none⟩)]) (h1 : BlkL w p1 [.int .i64 (i : Int)])
      (h2 : BlkL w p2 [.int .u64 (num : Int)]) (h3 : BlkL w p3 [.int .u8 (op : Int), .slice kA kn kc, .int .i64 v]) (h4 : BlkL w p4 [.slice A n c]) (h5 : BlkL w p5 [.bool true, .int .i64 (r.E : Int), .int .i64 r.N])
      (a0 : p0 ∉ S) (a1 : p1 ∉ S) (a2 : p2 ∉ S) (a3 : p3 ∉ S) (a4 : p4 ∉ S) (a5 : p5 ∉ S) (hk : Arg w w.heap.size kA kn kc ks) (ak : Apt S kA kn) (ck : kn ≤ 256) (hv : VerA w w.heap.size S A n c es) (hm : es.map KV.ent = made) (hw : WfL made) (hnum : num < 9223372036854775807) :
      NxV w s i S (.write op ks v num made r) (.func (.func 112) #[] #[.pointer (some ⟨p0, 0, none⟩), .pointer (some ⟨p1, 0, none⟩), .pointer (some ⟨p2, 0, none⟩), .pointer (some ⟨p3, 0, none⟩), .pointer (some ⟨p4, 0, none⟩), .pointer (some ⟨p5, 0, none⟩)])
theorem NxV.off {w w' : World} {s i : Nat} {S : List Nat} {x : Nx} {f : Value} (h : NxV w s i S x f) (hb : Off S w w') : NxV w' s i S x f := by
  cases h with
  | none => exact .none
  | read op ks v p0 p1 p2 kA kn kc ok h0 h1 h2 a0 a1 a2 hk ak ck => exact .read op ks v p0 p1 p2 kA kn kc ok (h0.off hb a0) (h1.off hb a1) (h2.off hb a2) a0 a1 a2 ((hk.off (Nat.le_refl _) hb ak).more hb.size) ak ck
  | write op ks v num made r p0 p1 p2 p3 p4 p5 kA kn kc A n c es ok h0 h1 h2 h3 h4 h5 a0 a1 a2 a3 a4 a5 hk ak ck hv hm hw hnum =>
    exact .write op ks v num made r p0 p1 p2 p3 p4 p5 kA kn kc A n c es ok (h0.off hb a0) (h1.off hb a1) (h2.off hb a2) (h3.off hb a3) (h4.off hb a4) (h5.off hb a5) a0 a1 a2 a3 a4 a5 ((hk.off (Nat.le_refl _) hb ak).more hb.size) ak ck ((hv.off (Nat.le_refl _) hb).more hb.size) hm hw hnum

theorem NxV.weak {w : World} {s i : Nat} {S S' : List Nat} {x : Nx} {f : Value} (h : NxV w s i S' x f) (hs : ∀ x ∈ S, x ∈ S') : NxV w s i S x f := by
  cases h with
  | none => exact .none
  | read op ks v p0 p1 p2 kA kn kc ok h0 h1 h2 a0 a1 a2 hk ak ck => exact .read op ks v p0 p1 p2 kA kn kc ok h0 h1 h2 (fun h => a0 (hs _ h)) (fun h => a1 (hs _ h)) (fun h => a2 (hs _ h)) hk (ak.weak hs) ck
  | write op ks v num made r p0 p1 p2 p3 p4 p5 kA kn kc A n c es ok h0 h1 h2 h3 h4 h5 a0 a1 a2 a3 a4 a5 hk ak ck hv hm hw hnum =>
    exact .write op ks v num made r p0 p1 p2 p3 p4 p5 kA kn kc A n c es ok h0 h1 h2 h3 h4 h5 (fun h => a0 (hs _ h)) (fun h => a1 (hs _ h)) (fun h => a2 (hs _ h)) (fun h => a3 (hs _ h)) (fun h => a4 (hs _ h)) (fun h => a5 (hs _ h)) hk (ak.weak hs) ck (hv.weak hs) hm hw hnum
def shF (b : Nat) (A : Option Addr) (n c : Nat) (fv : Nat → Value) : Nat → Value
  | 0 => .pointer (some ⟨b, 0, none⟩)
  | 1 => .slice A n c
  | j + 2 => fv j
theorem shF_next (b : Nat) (A : Option Addr) (n c : Nat) (fv : Nat → Value) (i : Nat) : shF b A n c fv (2 + i) = fv i := by rw [Nat.add_comm]; rfl
theorem shF_set (b : Nat) (A : Option Addr) (n c : Nat) (fv : Nat → Value) (i : Nat) (v : Value) : updF (shF b A n c fv) (2 + i) v = shF b A n c (updF fv i v) := by
  funext j
  match j with
  | 0 => unfold updF; rw [if_neg (by omega)]; rfl
  | 1 => unfold updF; rw [if_neg (by omega)]; rfl
  | j + 2 =>
    unfold updF
    by_cases h : j = i
    · subst h; rw [if_pos (by omega)]; simp [shF]
    · rw [if_neg (by omega)]; simp [shF, h]
theorem shF_holds (b : Nat) (A A' : Option Addr) (n c n' c' : Nat) (fv : Nat → Value) : updF (shF b A n c fv) 1 (.slice A' n' c') = shF b A' n' c' fv := by
  funext j
  match j with
  | 0 => rfl
  | 1 => rfl
  | j + 2 => unfold updF; rw [if_neg (by omega)]; rfl
/-- The Shard at block s: its Mach at b (one word, v, in block bw; k accesses), the version that holds, what each pending call does next. -/
structure ShR (w : World) (s b bw : Nat) (X : List Nat) (k v : Nat) (A : Option Addr) (n c : Nat) (es : List KV) (fv : Nat → Value) (nx : Nat → Nx) (ring : List Value) : Prop where
  blk : BlkF w s 66 (shF b A n c fv)
  m : MachS w b bw 1 [v] 0 k ring
  ver : VerA w w.heap.size (s :: b :: bw :: X) A n c es
  wf : WfL (es.map KV.ent)
  nxv : ∀ i, i < 64 → NxV w s i (s :: b :: bw :: X) (nx i) (fv i)
  vk : v ≤ k
  v1 : 1 ≤ v
  ne : s ≠ b
  ne' : s ≠ bw
  hX : ∀ x ∈ X, x < w.heap.size
def ShS (w : World) (s b bw : Nat) (X : List Nat) (k v : Nat) (l : List Ent) (nx : Nat → Nx) : Prop := ∃ A n c es fv ring, es.map KV.ent = l ∧ ShR w s b bw X k v A n c es fv nx ring
section
variable {w w' : World} {s b bw : Nat} {X : List Nat} {k v n c : Nat} {A : Option Addr} {es : List KV} {fv : Nat → Value} {nx : Nat → Nx} {ring : List Value} {S : List Nat} {l : List Ent}
theorem ShR.off (h : ShR w s b bw X k v A n c es fv nx ring) (hb : Off S w w') (h0 : s ∉ S) (h1 : b ∉ S) (h2 : bw ∉ S) (hS : Off (s :: b :: bw :: X) w w') : ShR w' s b bw X k v A n c es fv nx ring :=
  ⟨h.blk.off hb h0, h.m.off hb h1 h2, (h.ver.off (Nat.le_refl _) hS).more hS.size, h.wf, fun i hi => (h.nxv i hi).off hS, h.vk, h.v1, h.ne, h.ne', fun x hx => Nat.lt_of_lt_of_le (h.hX x hx) hb.size⟩
theorem ShR.below (h : ShR w s b bw X k v A n c es fv nx ring) (hb : Below w.heap.size w w') : ShR w' s b bw X k v A n c es fv nx ring :=
  h.off (S := []) (Off.of_below hb) (by simp) (by simp) (by simp) (Off.of_below hb)
theorem ShS.below (h : ShS w s b bw X k v l nx) (hb : Below w.heap.size w w') : ShS w' s b bw X k v l nx := by
  obtain ⟨A, n, c, es, fv, ring, e, h⟩ := h
  exact ⟨A, n, c, es, fv, ring, e, h.below hb⟩
theorem ShR.c0 (h : ShR w s b bw X k v A n c es fv nx ring) : w.cell? ⟨s, 0, none⟩ = some (.pointer (some ⟨b, 0, none⟩)) := h.blk.cell 0 (by omega)
theorem ShR.c1 (h : ShR w s b bw X k v A n c es fv nx ring) : w.cell? ⟨s, 1, none⟩ = some (.slice A n c) := h.blk.cell 1 (by omega)
theorem ShR.cn (h : ShR w s b bw X k v A n c es fv nx ring) {i : Nat} (hi : i < 64) : w.cell? ⟨s, 2 + i, none⟩ = some (fv i) := by
  rw [h.blk.cell (2 + i) (by omega), shF_next]
theorem ShR.fr (h : ShR w s b bw X k v A n c es fv nx ring) {i : Nat} (hi : i < 66) : w.frozen? ⟨s, i, none⟩ = false := h.blk.froz i hi
theorem ShR.lts (h : ShR w s b bw X k v A n c es fv nx ring) : s < w.heap.size ∧ b < w.heap.size ∧ bw < w.heap.size := ⟨h.blk.lt, h.m.blk.lt, h.m.wd.lt⟩
theorem ShR.all (h : ShR w s b bw X k v A n c es fv nx ring) : ∀ y ∈ s :: b :: bw :: X, y < w.heap.size := by
  have hl := h.lts
  intro y hy
  simp only [List.mem_cons] at hy
  rcases hy with rfl | rfl | rfl | hy
  · exact hl.1
  · exact hl.2.1
  · exact hl.2.2
  · exact h.hX _ hy
theorem ShR.nb (h : ShR w s b bw X k v A n c es fv nx ring) : w.heap.size ∉ s :: b :: bw :: X := fun hm => Nat.lt_irrefl _ (h.all _ hm)
theorem Off.upX (h : Off [s, b, bw] w w') : Off (s :: b :: bw :: X) w w' := h.mono (by intro x hx; simp only [List.mem_cons, List.not_mem_nil, or_false] at hx ⊢; rcases hx with h | h | h <;> simp [h])
end

theorem sWho_any (w : World) (n : Int) : Calls Try.prog 64 #[.int .i64 n] w fun e w' => e = .returned (.bool (inB n 64)) ∧ w = w' := by
  go_enter Try.func64, Try.ntmps64
  rcases h : decide (0 ≤ n) with _ | _
  · have e : inB n 64 = false := by unfold inB; rw [h]; rfl
    go_wp2
    go_ret
    exact ⟨by rw [e]; rfl, rfl⟩
  · have e : inB n 64 = decide (n < 64) := by unfold inB; rw [h]; rfl
    go_wp2
    go_ret
    exact ⟨by rw [e]; rfl, rfl⟩

theorem read_any (w : World) (s i : Nat) (S : List Nat) (op : Nat) (ks : List Nat) (v : Int) (kA : Option Addr) (kn kc : Nat) (hS : ∀ x ∈ S, x < w.heap.size) (ok : OkC op ks v) (hk : Arg w w.heap.size kA kn kc ks) (ak : Apt S kA kn) (ck : kn ≤ 256) :
    Calls Try.prog 66 #[.pointer (some ⟨s, 0, none⟩), .int .i64 (i : Int), .agg #[.int .u8 (op : Int), .slice kA kn kc, .int .i64 v]] w
      fun e w' => ∃ f, e = .returned f ∧ NxV w' s i S (.read op ks v) f ∧ Below w.heap.size w w' := by
  have hmf : ∀ (fn : Fn) (first cap : Array Value) (w : World), (Instr.makeFunc fn first cap).run Try.prog w = .ok (.func fn first cap) w := fun _ _ _ _ => rfl
  have k0 := ((BlkL.new w [.pointer (some ⟨s, 0, none⟩)] 66).alloc (.cells #[.int .i64 (i : Int)] 3)).alloc (.cells #[.int .u8 (op : Int), .slice kA kn kc, .int .i64 v] 149)
  have k1 := (BlkL.new (w.alloc (.cells #[.pointer (some ⟨s, 0, none⟩)] 66)) [.int .i64 (i : Int)] 3).alloc (.cells #[.int .u8 (op : Int), .slice kA kn kc, .int .i64 v] 149)
  have k2 := BlkL.new ((w.alloc (.cells #[.pointer (some ⟨s, 0, none⟩)] 66)).alloc (.cells #[.int .i64 (i : Int)] 3)) [.int .u8 (op : Int), .slice kA kn kc, .int .i64 v] 149
  rw [World.size_alloc] at k1 k2
  rw [World.size_alloc] at k2
  have hb : Below w.heap.size w (((w.alloc (.cells #[.pointer (some ⟨s, 0, none⟩)] 66)).alloc (.cells #[.int .i64 (i : Int)] 3)).alloc (.cells #[.int .u8 (op : Int), .slice kA kn kc, .int .i64 v] 149)) :=
    (((Below.refl w.heap.size w).alloc (by simp) _).alloc (by simp) _).alloc (by simp <;> omega) _
  have hn : ∀ j, w.heap.size + j ∉ S := fun j hj => by have := hS _ hj; omega
  have HN := Lib.hid (NxV.read op ks v w.heap.size (w.heap.size + 1) (w.heap.size + 1 + 1) kA kn kc ok k0 k1 k2 (hn 0) (hn 1) (hn 2) ((hk.below hb).more hb.size) ak ck)
  have HB := Lib.hid hb
  clear k0 k1 k2 hb hk ok ak hn
  go_enter Try.func66, Try.ntmps66
  go_wp2
  go_ret
  exact ⟨_, rfl, HN.out, HB.out⟩
theorem write_any (w : World) (s i : Nat) (S : List Nat) (op : Nat) (ks : List Nat) (v : Int) (kA : Option Addr) (kn kc : Nat) (num : Nat) (A : Option Addr) (n c : Nat) (es : List KV) (r : AnsV) (hS : ∀ x ∈ S, x < w.heap.size) (ok : OkC op ks v) (hk : Arg w w.heap.size kA kn kc ks) (ak : Apt S kA kn) (ck : kn ≤ 256)
    (hv : VerA w w.heap.size S A n c es) (hw : WfL (es.map KV.ent)) (hnum : num < 9223372036854775807) :
    Calls Try.prog 90 #[.pointer (some ⟨s, 0, none⟩), .int .i64 (i : Int), .agg #[.int .u8 (op : Int), .slice kA kn kc, .int .i64 v], .int .u64 (num : Int), .slice A n c, .agg #[.bool true, .int .i64 (r.E : Int), .int .i64 r.N]] w
      fun e w' => ∃ f, e = .returned f ∧ NxV w' s i S (.write op ks v num (es.map KV.ent) r) f ∧ Below w.heap.size w w' := by
  have hmf : ∀ (fn : Fn) (first cap : Array Value) (w : World), (Instr.makeFunc fn first cap).run Try.prog w = .ok (.func fn first cap) w := fun _ _ _ _ => rfl
  obtain ⟨w0, e0⟩ : ∃ w0, w0 = w := ⟨_, rfl⟩
  have hb0 : Below w.heap.size w w0 := by rw [e0]; exact Below.refl _ _
  obtain ⟨w1, e1⟩ : ∃ w1, w1 = w.alloc (.cells #[.pointer (some ⟨s, 0, none⟩)] 66) := ⟨_, rfl⟩
  obtain ⟨w2, e2⟩ : ∃ w2, w2 = w1.alloc (.cells #[.int .i64 (i : Int)] 3) := ⟨_, rfl⟩
  obtain ⟨w3, e3⟩ : ∃ w3, w3 = w2.alloc (.cells #[.int .u8 (op : Int), .slice kA kn kc, .int .i64 v] 149) := ⟨_, rfl⟩
  obtain ⟨w4, e4⟩ : ∃ w4, w4 = w3.alloc (.cells #[.int .u64 (num : Int)] 120) := ⟨_, rfl⟩
  obtain ⟨w5, e5⟩ : ∃ w5, w5 = w4.alloc (.cells #[.slice A n c] 140) := ⟨_, rfl⟩
  obtain ⟨w6, e6⟩ : ∃ w6, w6 = w5.alloc (.cells #[.bool true, .int .i64 (r.E : Int), .int .i64 r.N] 79) := ⟨_, rfl⟩
  have z1 : w1.heap.size = w.heap.size + 1 := by rw [e1, World.size_alloc]
  have z2 : w2.heap.size = w.heap.size + 1 + 1 := by rw [e2, World.size_alloc, z1]
  have z3 : w3.heap.size = w.heap.size + 1 + 1 + 1 := by rw [e3, World.size_alloc, z2]
  have z4 : w4.heap.size = w.heap.size + 1 + 1 + 1 + 1 := by rw [e4, World.size_alloc, z3]
  have z5 : w5.heap.size = w.heap.size + 1 + 1 + 1 + 1 + 1 := by rw [e5, World.size_alloc, z4]
  have k0 : BlkL w6 w.heap.size [.pointer (some ⟨s, 0, none⟩)] := by rw [e6, e5, e4, e3, e2, e1]; exact (((((BlkL.new w _ _).alloc _).alloc _).alloc _).alloc _).alloc _
  have k1 : BlkL w6 (w.heap.size + 1) [.int .i64 (i : Int)] := by rw [e6, e5, e4, e3, e2, ← z1]; exact ((((BlkL.new w1 _ _).alloc _).alloc _).alloc _).alloc _
  have k2 : BlkL w6 (w.heap.size + 1 + 1) [.int .u8 (op : Int), .slice kA kn kc, .int .i64 v] := by rw [e6, e5, e4, e3, ← z2]; exact (((BlkL.new w2 _ _).alloc _).alloc _).alloc _
  have k3 : BlkL w6 (w.heap.size + 1 + 1 + 1) [.int .u64 (num : Int)] := by rw [e6, e5, e4, ← z3]; exact ((BlkL.new w3 _ _).alloc _).alloc _
  have k4 : BlkL w6 (w.heap.size + 1 + 1 + 1 + 1) [.slice A n c] := by rw [e6, e5, ← z4]; exact (BlkL.new w4 _ _).alloc _
  have k5 : BlkL w6 (w.heap.size + 1 + 1 + 1 + 1 + 1) [.bool true, .int .i64 (r.E : Int), .int .i64 r.N] := by rw [e6, ← z5]; exact BlkL.new w5 _ _
  have hb : Below w.heap.size w w6 := by
    rw [e6, e5, e4, e3, e2, e1]
    exact ((((((Below.refl w.heap.size w).alloc (by simp) _).alloc (by simp) _).alloc (by simp <;> omega) _).alloc (by simp <;> omega) _).alloc (by simp <;> omega) _).alloc (by simp <;> omega) _
  have hn : ∀ j, w.heap.size + j ∉ S := fun j hj => by have := hS _ hj; omega
  have hN := NxV.write op ks v num (es.map KV.ent) r w.heap.size (w.heap.size + 1) (w.heap.size + 1 + 1 + 1) (w.heap.size + 1 + 1) (w.heap.size + 1 + 1 + 1 + 1) (w.heap.size + 1 + 1 + 1 + 1 + 1) kA kn kc A n c es ok k0 k1 k3 k2 k4 k5 (hn 0) (hn 1) (hn 3) (hn 2) (hn 4) (hn 5) ((hk.below hb).more hb.size) ak ck ((hv.below hb).more hb.size) rfl hw hnum
  rw [e6, e5, e4, e3, e2, e1] at hN hb
  have HN := Lib.hid hN
  have HB := Lib.hid hb
  clear k0 k1 k2 k3 k4 k5 hb hk ok ak hn hN hv hw z1 z2 z3 z4 z5 e1 e2 e3 e4 e5 e6 e0 hb0 w0 w1 w2 w3 w4 w5 w6
  go_enter Try.func90, Try.ntmps90
  go_wp2
  go_ret
  exact ⟨_, rfl, HN.out, HB.out⟩
end Go.Proofs.Ytpjgpiiibgogeaa
