/- What the law FrameCuts keeps. -/
import Derived.Test.YtndgladfcogiiaaFrI
namespace Go.Proofs.Ytndgladfcogiiaa
open Go.RowKit
set_option maxRecDepth 100000
set_option linter.unusedVariables false

theorem run_midB (w : World) (A : Option Addr) (N c at_ n : Nat) (h : at_ + n ≤ c) : (Instr.slice 22 (.slice A N c) (some (.int .i64 (at_ : Int))) (some (.int .i64 ((at_ : Int) + (n : Int)))) none).run Try.prog w = .ok (.slice (frB A c at_) n (c - at_)) w := by
  rw [run_slice_lh (ht := elemB) (h0 := by omega) (h1 := by omega) (h2 := by omega), sizeB]
  have e : ((at_ : Int) + (n : Int)).toNat = at_ + n := by omega
  simp [Result.andThen, sliced, frB, e]
theorem Arg.mid {w : World} {B N c : Nat} {A : Option Addr} {zs : List Nat} (h : Arg w B A N c zs) {at_ n : Nat} (hn : at_ + n ≤ N) : Arg w B (frB A c at_) n (c - at_) ((zs.drop at_).take n) := by
  have h1 := h.fromB (k := at_) (by omega)
  exact h1.take (by omega)
theorem PayL.src {w : World} {B k c : Nat} {A : Option Addr} {rs : List Row} (h : PayL w B A k c rs) : SrcV w A k (rs.map Row.val) :=
  ⟨h.own.len, fun e => (h.own.none_ e).1, fun ad e j u hu => by
    obtain ⟨h1, h2, h3, h4, h5⟩ := h.own.at_ ad e
    rw [h1, add_litV]
    exact h5 j u hu, by simp [Value.oneCell']⟩
theorem PayL.none_ {w : World} {B k c : Nat} {A : Option Addr} {rs : List Row} (h : PayL w B A k c rs) (e : A = none) : c = 0 := (h.own.none_ e).2
/-- Two lists of payloads, one behind the other. -/
theorem PayL.app {w w' : World} {B B2 k c k2 c2 c' : Nat} {A A2 A' : Option Addr} {rs rs2 : List Row} (h : PayL w B A k c rs) (h2 : PayL w B2 A2 k2 c2 rs2) (hB : B ≤ B2) (hd : ∀ y ∈ blkP A rs, y < B2)
    (ho : OwnV w' B A' (k + k2) c' (rs.map Row.val ++ rs2.map Row.val)) (hf : Off (bkV A) w w') (hA : ∀ y ∈ bkV A', y ∈ bkV A ∨ y = w.heap.size ∧ y < w'.heap.size) : PayL w' B A' (k + k2) c' (rs ++ rs2) := by
  have hnd := h.nd
  have hnd2 := h2.nd
  have hlt := h.lt
  have hlt2 := h2.lt
  unfold blkP at hnd hnd2 hlt hlt2 hd
  rw [List.nodup_append] at hnd hnd2
  obtain ⟨n1, n2, n3⟩ := hnd
  obtain ⟨m1, m2, m3⟩ := hnd2
  have hr2 : ∀ y ∈ rs2.map (·.b), B2 ≤ y ∧ y < w.heap.size := fun y hy => hlt2 y (List.mem_append.2 (.inr hy))
  refine ⟨by simpa using ho, fun q hq => ?_, ?_⟩
  · rcases List.mem_append.1 hq with hq | hq
    · exact (h.row q hq).off hf fun hs => n3 _ hs _ (List.mem_map.2 ⟨q, hq, rfl⟩) rfl
    · have h4 := h2.row q hq
      have h5 : RowOk w B q := ⟨h4.own.mono hB, h4.byte⟩
      refine h5.off hf fun hs => ?_
      have := hd _ (List.mem_append.2 (.inl hs))
      have := (hr2 _ (List.mem_map.2 ⟨q, hq, rfl⟩)).1
      omega
  · unfold blkP
    rw [List.nodup_append]
    refine ⟨?_, ?_, fun y hy q hq e => ?_⟩
    · cases A' with
      | none => simp [bkV]
      | some a => simp [bkV]
    · rw [List.map_append, List.nodup_append]
      refine ⟨n2, m2, fun y hy q hq e => ?_⟩
      have := hd y (List.mem_append.2 (.inr hy))
      have := (hr2 q hq).1
      omega
    · subst e
      rw [List.map_append, List.mem_append] at hq
      rcases hA y hy with hy' | ⟨rfl, _⟩
      · rcases hq with hq | hq
        · exact n3 _ hy' _ hq rfl
        · have := hd _ (List.mem_append.2 (.inl hy')); have := (hr2 _ hq).1; omega
      · rcases hq with hq | hq
        · have := (hlt _ (List.mem_append.2 (.inr hq))).2; omega
        · have := (hr2 _ hq).2; omega
theorem blkP_app {A A' : Option Addr} {rs rs2 : List Row} {z : Nat} {P : Nat → Prop} (hA : ∀ y ∈ bkV A', y ∈ bkV A ∨ y = z) {y : Nat} (hy : y ∈ blkP A' (rs ++ rs2)) : y ∈ blkP A rs ∨ y ∈ rs2.map (·.b) ∨ y = z := by
  unfold blkP at hy ⊢
  rw [List.map_append] at hy
  rcases List.mem_append.1 hy with h | h
  · rcases hA y h with h | h
    · exact .inl (List.mem_append.2 (.inl h))
    · exact .inr (.inr h)
  · rcases List.mem_append.1 h with h | h
    · exact .inl (List.mem_append.2 (.inr h))
    · exact .inr (.inl h)

/-- The error of a Feed. -/
def erV (b : Bool) : Int := if b then 12 else 0
def FeedV (w : World) (B rb : Nat) (A : Option Addr) (F : List (List Nat) × List Nat × Bool) (e : Ending) (w' : World) : Prop :=
  ∃ PA k kc rs A' n' c', e = .returned (.tuple #[.slice PA k kc, .int .i64 (erV F.2.2)]) ∧ rs.map (·.p) = F.1 ∧ PayL w' w.heap.size PA k kc rs ∧
    RdM w' B rb A' n' c' (if F.2.2 then [] else F.2.1) F.2.2 ∧ Off (rb :: bkV A) w w' ∧ (∀ y ∈ bkV A', y ∈ bkV A ∨ w.heap.size ≤ y) ∧ ∀ y ∈ bkV A', y ∉ blkP PA rs
theorem feed_v (w : World) (B rb : Nat) (A : Option Addr) (n c : Nat) (xs : List Nat) (S : Option Addr) (m d : Nat) (zs : List Nat) (F : List (List Nat) × List Nat × Bool) (hF : Fr.frV (xs ++ zs) = F) (h : RdM w B rb A n c xs false) (ha : Arg w w.heap.size S m d zs) (hB : B ≤ w.heap.size)
    (hnm : n + m ≤ 211106232532992) (hk : F.1.length * 24 ≤ 140737488355328) :
    Calls Try.prog 38 #[.pointer (some ⟨rb, 0, none⟩), .slice S m d] w (FeedV w B rb A F) := by
  subst hF; exact feed_open w B rb A n c xs S m d zs h ha hB hnm hk
/-- What holds between the pieces: the second reader has had the first at_ bytes. -/
def CuI (w w5 : World) (rb : Nat) (zs : List Nat) (at_ : Nat) (bv fv : Value) (wr : World) : Prop :=
  ∃ (BA : Option Addr) (bk bc : Nat) (rs : List Row) (A2 : Option Addr) (n2 c2 : Nat), bv = .slice BA bk bc ∧ fv = .int .i64 (erV (Fr.frV (zs.take at_)).2.2) ∧ rs.map (·.p) = (Fr.frV (zs.take at_)).1 ∧ PayL wr w5.heap.size BA bk bc rs ∧
    RdM wr w5.heap.size rb A2 n2 c2 (if (Fr.frV (zs.take at_)).2.2 then [] else (Fr.frV (zs.take at_)).2.1) (Fr.frV (zs.take at_)).2.2 ∧ (∀ y ∈ bkV A2, y ∉ blkP BA rs) ∧ Off [rb] w5 wr ∧ Below w.heap.size w wr
theorem take_mid (zs : List Nat) (a n : Nat) : zs.take (a + n) = zs.take a ++ (zs.drop a).take n := List.take_add
end Go.Proofs.Ytndgladfcogiiaa
