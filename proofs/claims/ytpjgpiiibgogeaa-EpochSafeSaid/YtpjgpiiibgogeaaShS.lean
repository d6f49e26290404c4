/- Contract: set of a call. -/
import Derived.Test.YtpjgpiiibgogeaaShC
import Derived.Deep.RegionHeld3
import Derived.Deep.QuietTactic
import Derived.BigQuiet
namespace Go.Proofs.Ytpjgpiiibgogeaa
open Go.RowKit
set_option maxRecDepth 100000
set_option linter.unusedVariables false

theorem BlkL.put3 {w : World} {b : Nat} {x0 x1 x2 : Value} (h : BlkL w b [x0, x1, x2]) (v0 v1 v2 : Value) :
    BlkL (((w.setCell ⟨b, 0, none⟩ v0).setCell ⟨b, 1, none⟩ v1).setCell ⟨b, 2, none⟩ v2) b [v0, v1, v2] := by
  have := ((h.set 0 v0 (by simp)).set 1 v1 (by simp)).set 2 v2 (by simp)
  simpa only [List.set_cons_zero, List.set_cons_succ] using this
theorem below_put3 {B : Nat} {a w : World} (h : Below B a w) {b : Nat} (hb : B ≤ b) (v0 v1 v2 : Value) : Below B a (((w.setCell ⟨b, 0, none⟩ v0).setCell ⟨b, 1, none⟩ v1).setCell ⟨b, 2, none⟩ v2) :=
  ((h.setCell (p := ⟨b, 0, none⟩) hb v0).setCell (p := ⟨b, 1, none⟩) hb v1).setCell (p := ⟨b, 2, none⟩) hb v2

theorem OwnC.other {w : World} {B k n c : Nat} {T : TypeId} {A : Option Addr} {cs : List Value} (h : OwnC w B T k A n c cs) {b i : Nat} {v : Value} (hb : b < B) : OwnC (w.setCell ⟨b, i, none⟩ v) B T k A n c cs := by
  rcases h with ⟨h0, h | ⟨g, cap, cur, h1, h2, h3, h4⟩⟩
  · exact ⟨h0, .inl h⟩
  · refine ⟨h0, .inr ⟨g, cap, cur, h1, h2, ?_, h4⟩⟩
    have hne : ¬ b = g := by omega
    rw [← h3]
    simp [World.setCell, Array.getElem?_modify, hne]
/-- Where a piece from k on lies. -/
def frA (A : Option Addr) (c k : Nat) : Option Addr := if c = k then A else A.map (·.add (k * 2))
theorem elem_ver : Try.prog.underlying 140 = some (.slice (Try.prog.elem 140)) := by kernel_rfl
theorem size_ver (w : World) : (sizeOf (Try.prog.elem 140)).run Try.prog w = .ok 2 w := by kernel_rfl
theorem run_from_ent2 (w : World) (A : Option Addr) (n c k : Nat) (hk : k ≤ n) : (Instr.slice 140 (.slice A n c) (some (.int .i64 (k : Int))) none none).run Try.prog w = .ok (.slice (frA A c k) (n - k) (c - k)) w := by
  rw [run_slice_l (ht := elem_ver) (h0 := by omega) (h1 := by omega), size_ver]
  simp [Result.andThen, sliced, frA]
theorem run_from_ent (w : World) (A : Option Addr) (n c k : Nat) (hk : k ≤ n) : (Instr.sliceAt 140 (.slice A n c) (some (.int .i64 (k : Int))) none none).run Try.prog w = .ok (.slice (frA A c k) (n - k) (c - k)) w := by
  rw [run_sliceAt_slice (h := elem_ver), run_from_ent2 w A n c k hk]

/-- How of and set end: what is answered, and where the version that was made lies. -/
def OfEnd (w : World) (cs : List Value) (r : AnsV) (m : Nat) (e : Ending) (w' : World) : Prop :=
  ∃ A c, e = .returned (.tuple #[.agg #[.bool true, .int .i64 (r.E : Int), .int .i64 r.N], .slice A m c]) ∧ OwnC w' w.heap.size TE 2 A m c cs ∧ Below w.heap.size w w'

set_option maxHeartbeats 1600000 in
theorem set_full (w : World) (kA : Option Addr) (kn kc op : Nat) (v : Int) (A : Option Addr) (n c p : Nat) (hn : 4096 ≤ n) :
    Calls Try.prog 110 #[.agg #[.int .u8 (op : Int), .slice kA kn kc, .int .i64 v], .slice A n c, .int .i64 (p : Int), .bool false] w (OfEnd w [] ⟨10, 0⟩ 0) := by
  have q1 : (4096 : Int) ≤ (n : Int) := by omega
  go_enter Try.func110, Try.ntmps110
  go_wp2
  exact bodyPost_ret (v := .tuple #[.agg #[.bool true, .int .i64 10, .int .i64 0], .slice none 0 0]) (by simp [results, Try.results110, go_sem]) rfl ⟨none, 0, rfl, OwnC.nil _ _ _ _, ((((Below.refl w.heap.size w).alloc (by simp) _).alloc (by simp) _))⟩

set_option maxHeartbeats 3200000 in
theorem set_new (w : World) (kA : Option Addr) (kn kc op : Nat) (v : Int) (A : Option Addr) (n c p : Nat) (cs : List Value) (h : ArgC w w.heap.size 2 A n c cs) (h1 : ∀ u ∈ cs, u.oneCell' = true) (hn : n < 4096) (hp : p ≤ n) (hn1 : n ≤ 4096) :
    Calls Try.prog 110 #[.agg #[.int .u8 (op : Int), .slice kA kn kc, .int .i64 v], .slice A n c, .int .i64 (p : Int), .bool false] w
      (OfEnd w (cs.take (p * 2) ++ [.slice kA kn kc, .int .i64 v] ++ cs.drop ((p) * 2)) ⟨0, v⟩ (n + 1)) := by
  have hle := h.le
  have hcap := h.cap
  unfold maxLen at hcap
  have q1 : (n : Int) < 4096 := by omega
  have q2 : (0 : Int) ≤ (p : Int) := by omega
  have q3 : (p : Int) ≤ (c : Int) := by omega
  have q4 : (p : Int) ≤ (n : Int) := by omega
  have hb : Below w.heap.size w ((w.alloc (.cells #[.int .u8 (op : Int), .slice kA kn kc, .int .i64 v] 149)).alloc (.cells #[.bool false, .int .i64 0, .int .i64 0] 79)) := ((Below.refl w.heap.size w).alloc (by simp) _).alloc (by simp) _
  have G := (h.below hb).more hb.size
  have HB := Lib.hid hb
  have hr := BlkL.new (w.alloc (.cells #[.int .u8 (op : Int), .slice kA kn kc, .int .i64 v] 149)) [.bool false, .int .i64 0, .int .i64 0] 79
  rw [World.size_alloc] at hr
  have HR := Lib.hid hr
  have HZ := Lib.hid (show w.heap.size < ((w.alloc (.cells #[.int .u8 (op : Int), .slice kA kn kc, .int .i64 v] 149)).alloc (.cells #[.bool false, .int .i64 0, .int .i64 0] 79)).heap.size ∧ w.heap.size + 1 < ((w.alloc (.cells #[.int .u8 (op : Int), .slice kA kn kc, .int .i64 v] 149)).alloc (.cells #[.bool false, .int .i64 0, .int .i64 0] 79)).heap.size by rw [World.size_alloc, World.size_alloc]; omega)
  have HC1 := Lib.hid (show ((w.alloc (.cells #[.int .u8 (op : Int), .slice kA kn kc, .int .i64 v] 149)).alloc (.cells #[.bool false, .int .i64 0, .int .i64 0] 79)).cell? ⟨w.heap.size, 1, none⟩ = some (.slice kA kn kc) by simp)
  have hx := concatE_three_d ((w.alloc (.cells #[.int .u8 (op : Int), .slice kA kn kc, .int .i64 v] 149)).alloc (.cells #[.bool false, .int .i64 0, .int .i64 0] 79)) (w.heap.size + 1 + 1) (w.heap.size + 1 + 1 + 1) kA kn kc v A (frA A c (p)) p c (n - (p)) (c - (p)) (n + 1) _ _ (G.to_ (m := p) (by omega)) (G.from_ (q := p) (by omega)) (fun u hu => h1 u (List.mem_of_mem_take hu)) (fun u hu => h1 u (List.mem_of_mem_drop hu)) (by simp) (by simp) (by omega) (by omega)
  have HX := Lib.hid hx
  have hs1 : ∀ w, (Instr.sliceAt 140 (.slice A n c) (some (.int .i64 (p : Int))) none none).run Try.prog w = .ok (.slice (frA A c (p)) (n - (p)) (c - (p))) w := fun w => run_from_ent w A n c p (by omega)
  have hs2 : ∀ w, (Instr.slice 140 (.slice A n c) (some (.int .i64 (p : Int))) none none).run Try.prog w = .ok (.slice (frA A c (p)) (n - (p)) (c - (p))) w := fun w => run_from_ent2 w A n c p (by omega)
  clear h h1 hb hr hx G
  go_enter Try.func110, Try.ntmps110
  go_wp2_with fail
  go_region_held3 (fun w' => w'.cell? ⟨w.heap.size, 1, none⟩ = some (.slice kA kn kc)) (go_keep) (((with_reducible refine (HX.out).mono ?_); rintro e w2 ⟨A', c', rfl, ho, hb⟩; have hc1 := (hb.cell (p := ⟨w.heap.size, 1, none⟩) HZ.out.1).trans HC1.out; have HO := Lib.hid (And.intro ho hb); clear ho hb))
  obtain ⟨ho, hb⟩ := HO.out
  clear HO
  have kr := (HR.out.below hb)
  have HBB := Lib.hid (HB.out.trans (hb.mono HB.out.size))
  have HK := Lib.hid ho
  clear ho hb HR HX hc1
  have r0 := kr.cell 0 _ rfl
  have r1 := kr.cell 1 _ rfl
  have r2 := kr.cell 2 _ rfl
  have g0 := kr.froz 0 (by simp)
  have g1 := kr.froz 1 (by simp)
  have g2 := kr.froz 2 (by simp)
  have rl := kr.lt
  have KR := Lib.hid kr
  clear kr
  go_wp2
  have bz := KR.out.put3 (.bool true) (.int .i64 0) (.int .i64 v)
  have z0 := bz.cell 0 _ rfl
  have z1 := bz.cell 1 _ rfl
  have z2 := bz.cell 2 _ rfl
  have hoz := (((HK.out.other (b := w.heap.size + 1) (i := 0) (v := .bool true) HZ.out.2).other (b := w.heap.size + 1) (i := 1) (v := .int .i64 0) HZ.out.2).other (b := w.heap.size + 1) (i := 2) (v := .int .i64 v) HZ.out.2).mono (B' := w.heap.size) HB.out.size
  have hbz := below_put3 HBB.out (b := w.heap.size + 1) (by omega) (.bool true) (.int .i64 0) (.int .i64 v)
  clear bz r0 r1 r2 g0 g1 g2
  exact bodyPost_ret (v := .tuple #[.agg #[.bool true, .int .i64 0, .int .i64 v], .slice A' (n + 1) c']) (by simp [results, Try.results110, go_sem, z0, z1, z2]) rfl ⟨A', c', rfl, hoz, hbz⟩

set_option maxHeartbeats 3200000 in
theorem set_put (w : World) (kA : Option Addr) (kn kc op : Nat) (v : Int) (A : Option Addr) (n c p : Nat) (cs : List Value) (h : ArgC w w.heap.size 2 A n c cs) (h1 : ∀ u ∈ cs, u.oneCell' = true) (hp1 : p < n) (ho : (op : Int) ≠ 3) (hn1 : n ≤ 4096) :
    Calls Try.prog 110 #[.agg #[.int .u8 (op : Int), .slice kA kn kc, .int .i64 v], .slice A n c, .int .i64 (p : Int), .bool true] w
      (OfEnd w (cs.take (p * 2) ++ [.slice kA kn kc, .int .i64 v] ++ cs.drop ((p + 1) * 2)) ⟨0, v⟩ (n)) := by
  have hle := h.le
  have hcap := h.cap
  unfold maxLen at hcap
  have q2 : (0 : Int) ≤ (p : Int) := by omega
  have q3 : (p : Int) ≤ (c : Int) := by omega
  have q4 : (p : Int) ≤ (n : Int) := by omega
  have q5 : (0 : Int) ≤ (p : Int) + 1 := by omega
  have q6 : (p : Int) + 1 ≤ (n : Int) := by omega
  have q7 : (p : Int) + 1 ≤ (c : Int) := by omega
  have q8 : (p : Int) < (n : Int) := by omega
  have q9 : ((p : Int) + 1).toNat = p + 1 := by omega
  have qo : ((op : Int) == 3) = false := by simpa using ho
  clear ho
  have hb : Below w.heap.size w ((w.alloc (.cells #[.int .u8 (op : Int), .slice kA kn kc, .int .i64 v] 149)).alloc (.cells #[.bool false, .int .i64 0, .int .i64 0] 79)) := ((Below.refl w.heap.size w).alloc (by simp) _).alloc (by simp) _
  have G := (h.below hb).more hb.size
  have HB := Lib.hid hb
  have hr := BlkL.new (w.alloc (.cells #[.int .u8 (op : Int), .slice kA kn kc, .int .i64 v] 149)) [.bool false, .int .i64 0, .int .i64 0] 79
  rw [World.size_alloc] at hr
  have HR := Lib.hid hr
  have HZ := Lib.hid (show w.heap.size < ((w.alloc (.cells #[.int .u8 (op : Int), .slice kA kn kc, .int .i64 v] 149)).alloc (.cells #[.bool false, .int .i64 0, .int .i64 0] 79)).heap.size ∧ w.heap.size + 1 < ((w.alloc (.cells #[.int .u8 (op : Int), .slice kA kn kc, .int .i64 v] 149)).alloc (.cells #[.bool false, .int .i64 0, .int .i64 0] 79)).heap.size by rw [World.size_alloc, World.size_alloc]; omega)
  have HC1 := Lib.hid (show ((w.alloc (.cells #[.int .u8 (op : Int), .slice kA kn kc, .int .i64 v] 149)).alloc (.cells #[.bool false, .int .i64 0, .int .i64 0] 79)).cell? ⟨w.heap.size, 1, none⟩ = some (.slice kA kn kc) by simp)
  have hx := concatE_three_d ((w.alloc (.cells #[.int .u8 (op : Int), .slice kA kn kc, .int .i64 v] 149)).alloc (.cells #[.bool false, .int .i64 0, .int .i64 0] 79)) (w.heap.size + 1 + 1) (w.heap.size + 1 + 1 + 1) kA kn kc v A (frA A c (p + 1)) p c (n - (p + 1)) (c - (p + 1)) (n) _ _ (G.to_ (m := p) (by omega)) (G.from_ (q := p + 1) (by omega)) (fun u hu => h1 u (List.mem_of_mem_take hu)) (fun u hu => h1 u (List.mem_of_mem_drop hu)) (by simp) (by simp) (by omega) (by omega)
  have HX := Lib.hid hx
  have hs1 : ∀ w, (Instr.sliceAt 140 (.slice A n c) (some (.int .i64 ((p : Int) + 1))) none none).run Try.prog w = .ok (.slice (frA A c (p + 1)) (n - (p + 1)) (c - (p + 1))) w := fun w => by have := run_from_ent w A n c (p + 1) (by omega); rw [show ((p + 1 : Nat) : Int) = (p : Int) + 1 by omega] at this; exact this
  have hs2 : ∀ w, (Instr.slice 140 (.slice A n c) (some (.int .i64 ((p : Int) + 1))) none none).run Try.prog w = .ok (.slice (frA A c (p + 1)) (n - (p + 1)) (c - (p + 1))) w := fun w => by have := run_from_ent2 w A n c (p + 1) (by omega); rw [show ((p + 1 : Nat) : Int) = (p : Int) + 1 by omega] at this; exact this
  clear h h1 hb hr hx G
  go_enter Try.func110, Try.ntmps110
  go_wp2_with fail
  go_region_held3 (fun w' => w'.cell? ⟨w.heap.size, 1, none⟩ = some (.slice kA kn kc)) (go_keep) (((with_reducible refine (HX.out).mono ?_); rintro e w2 ⟨A', c', rfl, ho, hb⟩; have hc1 := (hb.cell (p := ⟨w.heap.size, 1, none⟩) HZ.out.1).trans HC1.out; have HO := Lib.hid (And.intro ho hb); clear ho hb))
  obtain ⟨ho, hb⟩ := HO.out
  clear HO
  have kr := (HR.out.below hb)
  have HBB := Lib.hid (HB.out.trans (hb.mono HB.out.size))
  have HK := Lib.hid ho
  clear ho hb HR HX hc1
  have r0 := kr.cell 0 _ rfl
  have r1 := kr.cell 1 _ rfl
  have r2 := kr.cell 2 _ rfl
  have g0 := kr.froz 0 (by simp)
  have g1 := kr.froz 1 (by simp)
  have g2 := kr.froz 2 (by simp)
  have rl := kr.lt
  have KR := Lib.hid kr
  clear kr
  go_wp2
  have bz := KR.out.put3 (.bool true) (.int .i64 0) (.int .i64 v)
  have z0 := bz.cell 0 _ rfl
  have z1 := bz.cell 1 _ rfl
  have z2 := bz.cell 2 _ rfl
  have hoz := (((HK.out.other (b := w.heap.size + 1) (i := 0) (v := .bool true) HZ.out.2).other (b := w.heap.size + 1) (i := 1) (v := .int .i64 0) HZ.out.2).other (b := w.heap.size + 1) (i := 2) (v := .int .i64 v) HZ.out.2).mono (B' := w.heap.size) HB.out.size
  have hbz := below_put3 HBB.out (b := w.heap.size + 1) (by omega) (.bool true) (.int .i64 0) (.int .i64 v)
  clear bz r0 r1 r2 g0 g1 g2
  exact bodyPost_ret (v := .tuple #[.agg #[.bool true, .int .i64 0, .int .i64 v], .slice A' (n) c']) (by simp [results, Try.results110, go_sem, z0, z1, z2]) rfl ⟨A', c', rfl, hoz, hbz⟩

set_option maxHeartbeats 3200000 in
theorem set_add (w : World) (kA : Option Addr) (kn kc : Nat) (v : Int) (A : Option Addr) (n c p : Nat) (cs : List Value) (h : ArgC w w.heap.size 2 A n c cs) (h1 : ∀ u ∈ cs, u.oneCell' = true) (hp1 : p < n) (b off : Nat) (x x' : Int) (hA : A = some ⟨b, off, none⟩) (hcx : w.cell? ⟨b, off + p * 2 + 1, none⟩ = some (.int .i64 x)) (hbl : b < w.heap.size) (HT : Hid (∀ w, Calls Try.prog 122 #[.int .i64 x, .int .i64 v] w fun e w' => e = .returned (.tuple #[.int .i64 x', .int .i64 0]) ∧ w' = w)) (hn1 : n ≤ 4096) :
    Calls Try.prog 110 #[.agg #[.int .u8 3, .slice kA kn kc, .int .i64 v], .slice A n c, .int .i64 (p : Int), .bool true] w
      (OfEnd w (cs.take (p * 2) ++ [.slice kA kn kc, .int .i64 x'] ++ cs.drop ((p + 1) * 2)) ⟨0, x'⟩ (n)) := by
  have hle := h.le
  have hcap := h.cap
  unfold maxLen at hcap
  have q2 : (0 : Int) ≤ (p : Int) := by omega
  have q3 : (p : Int) ≤ (c : Int) := by omega
  have q4 : (p : Int) ≤ (n : Int) := by omega
  have q5 : (0 : Int) ≤ (p : Int) + 1 := by omega
  have q6 : (p : Int) + 1 ≤ (n : Int) := by omega
  have q7 : (p : Int) + 1 ≤ (c : Int) := by omega
  have q8 : (p : Int) < (n : Int) := by omega
  have q9 : ((p : Int) + 1).toNat = p + 1 := by omega
  subst hA
  have hb : Below w.heap.size w ((w.alloc (.cells #[.int .u8 3, .slice kA kn kc, .int .i64 v] 149)).alloc (.cells #[.bool false, .int .i64 0, .int .i64 0] 79)) := ((Below.refl w.heap.size w).alloc (by simp) _).alloc (by simp) _
  have G := (h.below hb).more hb.size
  have HB := Lib.hid hb
  have hr := BlkL.new (w.alloc (.cells #[.int .u8 3, .slice kA kn kc, .int .i64 v] 149)) [.bool false, .int .i64 0, .int .i64 0] 79
  rw [World.size_alloc] at hr
  have HR := Lib.hid hr
  have HZ := Lib.hid (show w.heap.size < ((w.alloc (.cells #[.int .u8 3, .slice kA kn kc, .int .i64 v] 149)).alloc (.cells #[.bool false, .int .i64 0, .int .i64 0] 79)).heap.size ∧ w.heap.size + 1 < ((w.alloc (.cells #[.int .u8 3, .slice kA kn kc, .int .i64 v] 149)).alloc (.cells #[.bool false, .int .i64 0, .int .i64 0] 79)).heap.size by rw [World.size_alloc, World.size_alloc]; omega)
  have HC1 := Lib.hid (show ((w.alloc (.cells #[.int .u8 3, .slice kA kn kc, .int .i64 v] 149)).alloc (.cells #[.bool false, .int .i64 0, .int .i64 0] 79)).cell? ⟨w.heap.size, 1, none⟩ = some (.slice kA kn kc) by simp)
  have hx := fun t => concatE_three (World.drewN ((w.alloc (.cells #[.int .u8 3, .slice kA kn kc, .int .i64 v] 149)).alloc (.cells #[.bool false, .int .i64 0, .int .i64 0] 79)) t) (w.heap.size + 1 + 1) (w.heap.size + 1 + 1 + 1) kA kn kc x' (some ⟨b, off, none⟩) (frA (some ⟨b, off, none⟩) c (p + 1)) p c (n - (p + 1)) (c - (p + 1)) (n) _ _ ((G.drewN t).to_ (m := p) (by omega)) ((G.drewN t).from_ (q := p + 1) (by omega)) (fun u hu => h1 u (List.mem_of_mem_take hu)) (fun u hu => h1 u (List.mem_of_mem_drop hu)) (by simp) (by simp) (by omega) (by omega)
  have HX := Lib.hid hx
  have gc : ((w.alloc (.cells #[.int .u8 3, .slice kA kn kc, .int .i64 v] 149)).alloc (.cells #[.bool false, .int .i64 0, .int .i64 0] 79)).cell? ⟨b, off + p * 2 + 1, none⟩ = some (.int .i64 x) := (hb.cell (p := ⟨b, off + p * 2 + 1, none⟩) hbl).trans hcx
  have hs1 : ∀ w, (Instr.sliceAt 140 (.slice (some ⟨b, off, none⟩) n c) (some (.int .i64 ((p : Int) + 1))) none none).run Try.prog w = .ok (.slice (frA (some ⟨b, off, none⟩) c (p + 1)) (n - (p + 1)) (c - (p + 1))) w := fun w => by have := run_from_ent w (some ⟨b, off, none⟩) n c (p + 1) (by omega); rw [show ((p + 1 : Nat) : Int) = (p : Int) + 1 by omega] at this; exact this
  have hs2 : ∀ w, (Instr.slice 140 (.slice (some ⟨b, off, none⟩) n c) (some (.int .i64 ((p : Int) + 1))) none none).run Try.prog w = .ok (.slice (frA (some ⟨b, off, none⟩) c (p + 1)) (n - (p + 1)) (c - (p + 1))) w := fun w => by have := run_from_ent2 w (some ⟨b, off, none⟩) n c (p + 1) (by omega); rw [show ((p + 1 : Nat) : Int) = (p : Int) + 1 by omega] at this; exact this
  clear h h1 hb hr hx G
  go_enter Try.func110, Try.ntmps110
  go_wp2_with fail
  go_quiet ((go_at_call 122; with_reducible exact Calls.quiet_of_same (HT.out _)))
  go_wp2_with fail
  have HRq := Lib.hid (HR.out.drewN (nq + 1))
  have HBq := Lib.hid (below_drews HB.out (nq + 1))
  have HCq := Lib.hid (show (World.drewN ((w.alloc (.cells #[.int .u8 3, .slice kA kn kc, .int .i64 v] 149)).alloc (.cells #[.bool false, .int .i64 0, .int .i64 0] 79)) nq).cell? ⟨w.heap.size, 1, none⟩ = some (.slice kA kn kc) from HC1.out)
  go_region_held3 (fun w' => w'.cell? ⟨w.heap.size, 1, none⟩ = some (.slice kA kn kc)) (go_keep) (((with_reducible refine (HX.out (nq + 1)).mono ?_); rintro e w2 ⟨A', c', rfl, ho, hb⟩; have hc1 := (hb.cell (p := ⟨w.heap.size, 1, none⟩) HZ.out.1).trans HC1.out; have HO := Lib.hid (And.intro ho hb); clear ho hb))
  obtain ⟨ho, hb⟩ := HO.out
  clear HO
  have kr := (HRq.out.below hb)
  have HBB := Lib.hid (HBq.out.trans (hb.mono HBq.out.size))
  have HK := Lib.hid ho
  clear ho hb HR HX hc1
  have r0 := kr.cell 0 _ rfl
  have r1 := kr.cell 1 _ rfl
  have r2 := kr.cell 2 _ rfl
  have g0 := kr.froz 0 (by simp)
  have g1 := kr.froz 1 (by simp)
  have g2 := kr.froz 2 (by simp)
  have rl := kr.lt
  have KR := Lib.hid kr
  clear kr
  go_wp2
  have bz := KR.out.put3 (.bool true) (.int .i64 0) (.int .i64 x')
  have z0 := bz.cell 0 _ rfl
  have z1 := bz.cell 1 _ rfl
  have z2 := bz.cell 2 _ rfl
  have hoz := (((HK.out.other (b := w.heap.size + 1) (i := 0) (v := .bool true) HZ.out.2).other (b := w.heap.size + 1) (i := 1) (v := .int .i64 0) HZ.out.2).other (b := w.heap.size + 1) (i := 2) (v := .int .i64 x') HZ.out.2).mono (B' := w.heap.size) HB.out.size
  have hbz := below_put3 HBB.out (b := w.heap.size + 1) (by omega) (.bool true) (.int .i64 0) (.int .i64 x')
  clear bz r0 r1 r2 g0 g1 g2
  exact bodyPost_ret (v := .tuple #[.agg #[.bool true, .int .i64 0, .int .i64 x'], .slice A' (n) c']) (by simp [results, Try.results110, go_sem, z0, z1, z2]) rfl ⟨A', c', rfl, hoz, hbz⟩

end Go.Proofs.Ytpjgpiiibgogeaa
