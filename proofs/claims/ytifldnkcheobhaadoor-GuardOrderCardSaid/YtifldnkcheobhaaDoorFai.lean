/- A panic act panics. -/
import Derived.Test.YtifldnkcheobhaaDoorSnd
import Derived.Test.YtifldnkcheobhaaDoorAsB
namespace Go.Proofs.YtifldnkcheobhaaDoor
open Go.RowKit Go.Extern.Stop Go.Stop
set_option maxRecDepth 100000
set_option linter.unusedVariables false
set_option linter.unusedSimpArgs false
set_option maxHeartbeats 4000000

theorem ta101 {T : TypeId} (h : RunT T) (v : Value) (w : World) : (Instr.typeAssert (.iface T v) 20 101 true).run Tryd.prog w = .ok (.tuple #[.iface T v, .bool true]) w := by
  rcases h with rfl | rfl | rfl | rfl | rfl <;> exact run_typeAssert_hasB Tryd.underlying101 (by kernel_rfl) v 20 w
theorem ta101n (w : World) : (Instr.typeAssert .nilIface 20 101 true).run Tryd.prog w = .ok (.tuple #[.nilIface, .bool false]) w := by kernel_rfl
def Me1E (w : World) (k : Nat) (met : Value) (e : Ending) (u' : FrameMode) (w' : World) : Prop :=
  e = .panicked [{ v := .iface 118 (.pointer (some ⟨w.heap.size, 0, none⟩)), recovered := false }] ∧ u' = .panicking ({ v := met, recovered := true } :: []) ∧ BlkL w' w.heap.size [.int .u8 (k : Int), met] ∧ Off [] w w'
theorem meet1_some (w : World) (cb k : Nat) (T : TypeId) (x : Value) (h : BlkL w cb [.int .u8 (k : Int)]) (hT : RunT T) :
    CallsD Tryd.prog 70 #[.pointer (some ⟨cb, 0, none⟩)] (.panicking ({ v := .iface T x, recovered := false } :: [])) w (Me1E w k (.iface T x)) := by
  have h0 := h.cell 0 _ rfl
  have ht := ta101 hT x
  have hb := BlkL.new w [.int .u8 (k : Int), .nilIface] 121
  have z1 := hb.cell 1 _ rfl
  have f1 := hb.froz 1 (by simp)
  have HB := Lib.hid hb
  clear h hb
  refine callsD_of_wpS Tryd.func70 rfl fun c₀ cs hu => ?_
  apply wpS_seq
  apply wpS_region
  simp [wpOpsS, go_sem, h0, Tryd.ntmps70, Exit.thenS]
  apply wpS_seq
  apply wpS_seq
  apply wpS_region
  simp [wpOpsS, go_sem, recoverD, hu, ht, Exit.thenS]
  apply wpS_seq
  apply wpS_region
  simp [wpOpsS, go_sem, Exit.thenS]
  refine wpS_cond (t := true) (by simp [Act.eval, Array.replicate]) ?_
  simp only [if_true]
  apply wpS_region
  simp [wpOpsS, go_sem, z1, f1, Exit.thenS]
  apply wpS_region
  simp [wpOpsS, go_sem, Exit.thenS]
  exact ⟨rfl, _, rfl, rfl, rfl, BlkL.new w [.int .u8 (k : Int), .iface T x] _, (Off.refl [] w).alloc _⟩
theorem meet1_nil (w : World) (cb k : Nat) (h : BlkL w cb [.int .u8 (k : Int)]) :
    CallsD Tryd.prog 70 #[.pointer (some ⟨cb, 0, none⟩)] (.panicking ({ v := .nilIface, recovered := false } :: [])) w (Me1E w k (.nilIface)) := by
  have h0 := h.cell 0 _ rfl
  have ht := ta101n
  have hb := BlkL.new w [.int .u8 (k : Int), .nilIface] 121
  have z1 := hb.cell 1 _ rfl
  have f1 := hb.froz 1 (by simp)
  have HB := Lib.hid hb
  clear h hb
  refine callsD_of_wpS Tryd.func70 rfl fun c₀ cs hu => ?_
  apply wpS_seq
  apply wpS_region
  simp [wpOpsS, go_sem, h0, Tryd.ntmps70, Exit.thenS]
  apply wpS_seq
  apply wpS_seq
  apply wpS_region
  simp [wpOpsS, go_sem, recoverD, hu, ht, Exit.thenS]
  apply wpS_seq
  apply wpS_region
  simp [wpOpsS, go_sem, Exit.thenS]
  refine wpS_cond (t := false) (by simp [Act.eval, Array.replicate]) ?_
  simp only [Bool.false_eq_true, if_false]
  refine wpS_of_wp (wp_skip ?_)
  simp only [Exit.thenS]
  apply wpS_region
  simp [wpOpsS, go_sem, Exit.thenS]
  exact ⟨rfl, _, rfl, rfl, rfl, HB.out, (Off.refl [] w).alloc _⟩
theorem meet_any (w : World) (k : Nat) (h1 : 14 ≤ k) (h2 : k ≤ 24) :
    Calls Tryd.prog 60 #[.int .u8 (k : Int)] w fun e w' => ∃ b met older, e = .panicked ({ v := .iface 118 (.pointer (some ⟨b, 0, none⟩)), recovered := false } :: older) ∧ (∀ q ∈ older, q.goexit = false) ∧ BlkL w' b [.int .u8 (k : Int), met] ∧ MetOk met ∧ w.heap.size ≤ b ∧ Off [] w w' := by
  have hmf : ∀ (fn : Fn) (first cap : Array Value) (w : World), (Instr.makeFunc fn first cap).run Tryd.prog w = .ok (.func fn first cap) w := fun _ _ _ _ => rfl
  have hb := BlkL.new w [.int .u8 (k : Int)] 5
  have c0 := hb.cell 0 _ rfl
  have HB := Lib.hid hb
  have HS := Lib.hid (stu_any (w.alloc (.cells #[.int .u8 (k : Int)] 5)) k h1 h2)
  clear hb
  go_enter_defers Tryd.func60, Tryd.ntmps60
  go_wp2_with fail
  with_reducible refine HS.out.mono ?_
  intro e w2 hE
  obtain ⟨met, rfl, hm, hf⟩ := hE
  have hb2 := HB.out.off hf (by simp)
  have ho : Off [] w w2 := ((Off.refl [] w).alloc _).trans hf
  refine leaves_cons (f := 70) (args := #[.pointer (some ⟨w.heap.size, 0, none⟩)]) (by simp) (by simp [go_sem]) ?_
  have hM : CallsD Tryd.prog 70 #[.pointer (some ⟨w.heap.size, 0, none⟩)] (.panicking ({ v := met, recovered := false } :: [])) w2 (Me1E w2 k met) := by
    rcases hm with rfl | ⟨T, x, rfl, hR⟩
    · exact meet1_nil w2 w.heap.size k hb2
    · exact meet1_some w2 w.heap.size k T x hb2 hR
  refine hM.mono ?_
  intro e u' w3 hE
  obtain ⟨rfl, rfl, k1, k2⟩ := hE
  exact ⟨w2.heap.size, met, [{ v := met, recovered := true }], rfl, by simp, k1, hm, ho.size, ho.trans k2⟩
/-- A text's act, out of what is known of Itoa and of its reading. -/
def TextC (w0 : World) : Prop := ∀ (W : World) (n : Int), Glb w0 W → -9223372036854775808 ≤ n → n ≤ 9223372036854775807 → ∃ s : ByteArray, (∀ W', Glb w0 W' → Calls Tryd.prog 59 #[.int .i64 n] W' fun e w' => e = .returned (.string s) ∧ Off [] W' w') ∧ ∀ W', Glb w0 W' → Calls Tryd.prog 37 #[.string s] W' fun e w' => e = .returned (.int .i64 n) ∧ Off [] W' w'
theorem fail_any (w0 : World) (HX : TextC w0) : FailC w0 := by
  intro w k n hg hk1 hk2 hn1 hn2
  have hb := BlkL.new w [.int .u8 (k : Int), .int .i64 n] 24
  have c0 := hb.cell 0 _ rfl
  have c1 := hb.cell 1 _ rfl
  have hO : Off [] w (w.alloc (.cells #[.int .u8 (k : Int), .int .i64 n] 24)) := (Off.refl [] w).alloc _
  have HO := Lib.hid hO
  have HG := Lib.hid (hg.off hO)
  have HX2 := Lib.hid (HX w n hg hn1 hn2)
  clear hb hO hg
  rcases (show k = 11 ∨ k = 12 ∨ k = 13 ∨ 14 ≤ k by omega) with rfl | rfl | rfl | h14
  · go_enter Tryd.func51, Tryd.ntmps51
    go_wp2
    exact ⟨rfl, _, _, [], rfl, by simp, .int n ⟨hn1, hn2⟩, HO.out, by simp [cbk]⟩
  · obtain ⟨st, hs1, hs2⟩ := HX2.out
    have HI := Lib.hid (hs1 _ HG.out)
    have HN := Lib.hid hs2
    clear hs1 hs2
    go_enter Tryd.func51, Tryd.ntmps51
    go_wp2_with fail
    refine HI.out.mono ?_
    rintro e w2 ⟨rfl, hf⟩
    have HO2 := Lib.hid (HO.out.trans hf)
    clear hf
    go_wp2
    exact ⟨rfl, _, _, [], rfl, by simp, .text st n HN.out, HO2.out, by simp [cbk]⟩
  · have hp : ∀ (T : TypeId) (x : Value) (w : World), (Instr.panic (.iface T x)).run Tryd.prog w = .halt (.panic (.iface T x)) w := fun _ _ _ => rfl
    have HB := Lib.hid (BlkL.new (w.alloc (.cells #[.int .u8 13, .int .i64 n] 24)) [.int .i64 n] 117)
    go_enter Tryd.func51, Tryd.ntmps51
    go_wp2
    have hB := HB.out
    rw [show (w.alloc (.cells #[.int .u8 13, .int .i64 n] 24)).heap.size = w.heap.size + 1 by simp] at hB
    exact ⟨rfl, _, _, [], rfl, by simp, .err (w.heap.size + 1) n hB, HO.out.alloc _, by simp [cbk]⟩
  · have q1 : ¬ (k : Int) = 11 := by omega
    have q2 : ¬ (k : Int) = 12 := by omega
    have q3 : ¬ (k : Int) = 13 := by omega
    have HM := Lib.hid (meet_any (w.alloc (.cells #[.int .u8 (k : Int), .int .i64 n] 24)) k h14 hk2)
    go_enter Tryd.func51, Tryd.ntmps51
    go_wp2_with fail
    with_reducible refine HM.out.mono ?_
    intro e w2 hE
    obtain ⟨b, met, older, rfl, hol, hb, hm, hbl, hf⟩ := hE
    refine ⟨rfl, _, _, older, rfl, hol, ?_, HO.out.trans hf, ?_⟩
    · have e : endV k n = (k, 0) := by simp [endV]; omega
      rw [e]
      exact .crash b k met hb hm ⟨h14, hk2⟩
    · intro y hy
      simp [cbk] at hy
      subst hy
      simp at hbl
      omega
end Go.Proofs.YtifldnkcheobhaaDoor
