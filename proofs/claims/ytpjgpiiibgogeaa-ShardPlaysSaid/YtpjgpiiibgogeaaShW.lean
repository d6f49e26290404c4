/- Contract: the function value that puts a version in the place of the one that was read. -/
import Derived.Test.YtpjgpiiibgogeaaShV
namespace Go.Proofs.Ytpjgpiiibgogeaa
open Go.RowKit
set_option maxRecDepth 100000
set_option linter.unusedVariables false

def StEnd (w : World) (s b bw : Nat) (X : List Nat) (k v : Nat) (l : List Ent) (fv : Nat → Value) (nx : Nat → Nx) (i : Nat) (q : ResV) (y : Nx) (e : Ending) (w' : World) : Prop :=
  ∃ f A n c es ring, e = .returned (.tuple #[.agg #[.bool q.d, .int .i64 q.E, .int .i64 q.N], f]) ∧ es.map KV.ent = l ∧ ShR w' s b bw X k v A n c es fv nx ring ∧ NxV w' s i (s :: b :: bw :: X) y f ∧ Off [s, b, bw] w w'
theorem RdEnd.st {w : World} {s b bw : Nat} {X : List Nat} {k v : Nat} {A : Option Addr} {n c : Nat} {es : List KV} {fv : Nat → Value} {nx : Nat → Nx} {i : Nat} {q : ResV} {y : Nx} {e : Ending} {w' : World} (h : RdEnd w s b bw X k v A n c es fv nx i q y e w') : StEnd w s b bw X k v (es.map KV.ent) fv nx i q y e w' := by
  obtain ⟨f, ring, he, h1, h2, h3⟩ := h
  exact ⟨f, A, n, c, es, ring, he, rfl, h1, h2, h3.mono (by simp)⟩

set_option maxHeartbeats 12800000 in
theorem write1_ok (w : World) (s b bw : Nat) (X : List Nat) (k v n c i : Nat) (A : Option Addr) (es : List KV) (fv : Nat → Value) (nx : Nat → Nx) (ring : List Value) (h : ShR w s b bw X k v A n c es fv nx ring) (hk : k < 9223372036854775807) (hi : i < 64)
    (op : Nat) (ks : List Nat) (x : Int) (made : List Ent) (r : AnsV) (p0 p1 p2 p3 p4 p5 : Nat) (kA : Option Addr) (kn kc : Nat) (A' : Option Addr) (n' c' : Nat) (es' : List KV) (ok : OkC op ks x) (h0 : BlkL w p0 [.pointer (some ⟨s, 0, none⟩)]) (h1 : BlkL w p1 [.int .i64 (i : Int)])
    (h2 : BlkL w p2 [.int .u64 (v : Int)]) (h3 : BlkL w p3 [.int .u8 (op : Int), .slice kA kn kc, .int .i64 x]) (h4 : BlkL w p4 [.slice A' n' c']) (h5 : BlkL w p5 [.bool true, .int .i64 (r.E : Int), .int .i64 r.N])
    (a0 : p0 ∉ (s :: b :: bw :: X)) (a1 : p1 ∉ (s :: b :: bw :: X)) (a2 : p2 ∉ (s :: b :: bw :: X)) (a3 : p3 ∉ (s :: b :: bw :: X)) (a4 : p4 ∉ (s :: b :: bw :: X)) (a5 : p5 ∉ (s :: b :: bw :: X)) (hka : Arg w w.heap.size kA kn kc ks) (ak : Apt (s :: b :: bw :: X) kA kn) (ck : kn ≤ 256) (hv : VerA w w.heap.size (s :: b :: bw :: X) A' n' c' es') (hm : es'.map KV.ent = made) (hw : WfL made) (hlim : v < 9223372036854775807) :
    Calls Try.prog 112 #[.pointer (some ⟨p0, 0, none⟩), .pointer (some ⟨p1, 0, none⟩), .pointer (some ⟨p2, 0, none⟩), .pointer (some ⟨p3, 0, none⟩), .pointer (some ⟨p4, 0, none⟩), .pointer (some ⟨p5, 0, none⟩)] w
      (StEnd w s b bw X (k + 1) (v + 1) made fv nx i ⟨true, r.E, r.N⟩ .none) := by
  have hb0 : Below w.heap.size w (w.alloc (.cells #[.bool false, .int .i64 0, .int .i64 0] 79)).drew := ((Below.refl w.heap.size w).alloc (by simp) _).drew
  have c0 := h.c0
  have c1 := h.c1
  have fr1 := h.fr (i := 1) (by omega)
  have g0 := h0.cell 0 _ rfl
  have g1 := h1.cell 0 _ rfl
  have g2 := h2.cell 0 _ rfl
  have l0 := h0.lt
  have l1 := h1.lt
  have l2 := h2.lt
  obtain ⟨ls, lb, lbw⟩ := h.lts
  have HL := Lib.hid (fun w1 (hm : MachS w1 b bw 1 [v] 0 k ring) => by have := sSwap0 w1 b bw k v ring hm (by omega) i hi v (v + 1); rw [show decide (v = v) = true by simp, if_pos rfl, show ((v + 1 : Nat) : Int) = (v : Int) + 1 by omega] at this; exact this)
  have hwr : IntKind.u64.wrap ((v : Int) + 1) = (v : Int) + 1 := by rw [IntKind.wrap_u64]; omega
  have HH := Lib.hid (h.below hb0)
  have HORIG := Lib.hid h
  have lift : ∀ {q : Nat} {xs : List Value}, BlkL w q xs → BlkL (w.alloc (.cells #[.bool false, .int .i64 0, .int .i64 0] 79)).drew q xs := fun hq => hq.below (hb0.mono (by omega))
  have HK0 := Lib.hid (And.intro (lift h0) (And.intro (lift h1) (lift h2)))
  have HK3 := Lib.hid (And.intro (lift h3) (And.intro (lift h4) (lift h5)))
  have HKA := Lib.hid (And.intro hka (And.intro (ak.new hka (Nat.le_refl _)) (And.intro ok ck)))
  have HV := Lib.hid (And.intro hv (And.intro hm hw))
  have HR := Lib.hid (BlkL.new w [.bool false, .int .i64 0, .int .i64 0] 79).drew
  have HB := Lib.hid hb0
  have HN0 := Lib.hid (And.intro a0 (And.intro a1 a2))
  have HN3 := Lib.hid (And.intro a3 (And.intro a4 a5))
  have hwm : w.heap.size ∉ (s :: b :: bw :: X) := h.nb
  have HWM := Lib.hid hwm
  have m2 : ∀ {q : Nat}, q ∉ (s :: b :: bw :: X) → q ∉ [b, bw] := fun hq hh => hq (by simp only [List.mem_cons, List.not_mem_nil, or_false] at hh ⊢; rcases hh with h | h <;> simp [h])
  have hsb : s ∉ [b, bw] := by simp; exact ⟨h.ne, h.ne'⟩
  have HNE := Lib.hid (And.intro (m2 a0) (And.intro (m2 a1) (And.intro (m2 a2) hsb)))
  clear h h0 h1 h2 h3 h4 h5 hka ak ok a0 a1 a2 a3 a4 a5 hb0 hwm hsb hv hm hw m2 lift
  go_enter Try.func112, Try.ntmps112
  go_wp2_with fail
  go_region_held3 (fun w' => w'.cell? ⟨p0, 0, none⟩ = some (.pointer (some ⟨s, 0, none⟩)) ∧ w'.cell? ⟨s, 0, none⟩ = some (.pointer (some ⟨b, 0, none⟩)) ∧ w'.cell? ⟨p1, 0, none⟩ = some (.int .i64 (i : Int)) ∧ w'.cell? ⟨p2, 0, none⟩ = some (.int .u64 (v : Int))) (go_keep)
    (((with_reducible refine (HL.out _ HH.out.m).mono ?_); rintro e w2 ⟨rfl, ⟨ring2, hm2⟩, hf2⟩; have k0 := HK0.out.1.off hf2 HNE.out.1; have k1 := HK0.out.2.1.off hf2 HNE.out.2.1; have k2 := HK0.out.2.2.off hf2 HNE.out.2.2.1; have n0 := k0.cell 0 _ rfl; have n1 := k1.cell 0 _ rfl; have n2 := k2.cell 0 _ rfl; have n3 := (hf2.cell (p := ⟨s, 0, none⟩) HH.out.lts.1 HNE.out.2.2.2).trans HH.out.c0; have HM := Lib.hid (And.intro hm2 hf2); clear hm2 hf2 k0 k1 k2))
  clear g0 g1 g2 l0 l1 l2 lb lbw c0 n0 n1 n2 n3 hwr
  obtain ⟨hm2, hf2⟩ := HM.out
  have hf3 : Off (s :: b :: bw :: X) _ w2 := hf2.mono (by simp)
  have HOF := Lib.hid (Off.trans (Off.of_below (S := [b, bw]) HB.out) hf2)
  have kr := HR.out.off hf3 HWM.out
  have k0 := HK0.out.1.off hf3 HN0.out.1
  have k1 := HK0.out.2.1.off hf3 HN0.out.2.1
  have k3 := HK3.out.1.off hf3 HN3.out.1
  have k4 := HK3.out.2.1.off hf3 HN3.out.2.1
  have k5 := HK3.out.2.2.off hf3 HN3.out.2.2
  have HM2 := Lib.hid hm2
  have hfs := (hf2.frozen (p := ⟨s, 1, none⟩) HH.out.lts.1 HNE.out.2.2.2).trans (HH.out.fr (i := 1) (by omega))
  have hcs := (hf2.cell (p := ⟨s, 1, none⟩) HH.out.lts.1 HNE.out.2.2.2).trans HH.out.c1
  have hsz2 := hf2.size
  have hws : w.heap.size < w2.heap.size := Nat.lt_of_lt_of_le (by simp) hsz2
  have r0 := kr.cell 0 _ rfl
  have r1 := kr.cell 1 _ rfl
  have r2 := kr.cell 2 _ rfl
  have z0 := kr.froz 0 (by simp)
  have z1 := kr.froz 1 (by simp)
  have z2 := kr.froz 2 (by simp)
  have e0 := k0.cell 0 _ rfl
  have e1 := k1.cell 0 _ rfl
  have e30 := k3.cell 0 _ rfl
  have e31 := k3.cell 1 _ rfl
  have e32 := k3.cell 2 _ rfl
  have e4 := k4.cell 0 _ rfl
  have e50 := k5.cell 0 _ rfl
  have e51 := k5.cell 1 _ rfl
  have e52 := k5.cell 2 _ rfl
  have j0 := k0.lt
  have j1 := k1.lt
  have j3 := k3.lt
  have j4 := k4.lt
  have j5 := k5.lt
  have hn5 : p5 ≠ s := fun hh => HN3.out.2.2 (by simp [hh])
  have hnws : w.heap.size ≠ s := fun hh => HWM.out (by simp [hh])
  have KR := Lib.hid kr
  clear k0 k1 k3 k4 k5 kr hm2 hf2 hf3 HM HL
  go_wp2
  have hm2 := HM2.out.off (S := [s]) ((Off.refl [s] w2).setCell (p := ⟨s, 1, none⟩) (by simp) (.slice A' n' c')) (by simpa using Ne.symm HORIG.out.ne) (by simpa using Ne.symm HORIG.out.ne')
  have hbk := ((HORIG.out.blk.off HOF.out HNE.out.2.2.2).set 1 (.slice A' n' c') (by omega))
  rw [shF_holds] at hbk
  have kr1 := KR.out.other s 1 (.slice A' n' c') (Ne.symm hnws)
  have hof1 : Off [s, b, bw] w (w2.setCell ⟨s, 1, none⟩ (.slice A' n' c')) := (HOF.out.mono (by simp)).setCell (p := ⟨s, 1, none⟩) (by simp) _
  have bz := kr1.put3 (.bool true) (.int .i64 (r.E : Int)) (.int .i64 r.N)
  have t0 := bz.cell 0 _ rfl
  have t1 := bz.cell 1 _ rfl
  have t2 := bz.cell 2 _ rfl
  have hof := hof1.put3 (r := w.heap.size) (Nat.le_refl _) (.bool true) (.int .i64 (r.E : Int)) (.int .i64 r.N)
  have hofr := (Off.refl [w.heap.size] (w2.setCell ⟨s, 1, none⟩ (.slice A' n' c'))).put3' (r := w.heap.size) (by simp) (.bool true) (.int .i64 (r.E : Int)) (.int .i64 r.N)
  have hmf := hm2.off hofr (fun hh => HWM.out (by simp at hh ⊢; omega)) (fun hh => HWM.out (by simp at hh ⊢; omega))
  have hbf := hbk.off hofr (fun hh => hnws (by simp at hh; omega))
  clear bz r0 r1 r2 z0 z1 z2
  refine bodyPost_ret (v := .tuple #[.agg #[.bool true, .int .i64 (r.E : Int), .int .i64 r.N], .nilFunc]) (by simp [results, Try.results112, go_sem, t0, t1, t2]) rfl ?_
  have hvk := HORIG.out.vk
  have hv1 := HORIG.out.v1
  exact ⟨.nilFunc, A', n', c', es', ring2, rfl, HV.out.2.1, ⟨hbf, hmf, (HV.out.1.off (Nat.le_refl _) hof.upX).more hof.size, by rw [HV.out.2.1]; exact HV.out.2.2, fun j hj => (HORIG.out.nxv j hj).off hof.upX, by omega, by omega, HORIG.out.ne, HORIG.out.ne', fun x hx => Nat.lt_of_lt_of_le (HORIG.out.hX x hx) hof.size⟩, .none, hof⟩

set_option maxHeartbeats 12800000 in
theorem write1_not (w : World) (s b bw : Nat) (X : List Nat) (k v n c i : Nat) (A : Option Addr) (es : List KV) (fv : Nat → Value) (nx : Nat → Nx) (ring : List Value) (h : ShR w s b bw X k v A n c es fv nx ring) (hk : k < 9223372036854775807) (hi : i < 64)
    (op : Nat) (ks : List Nat) (x : Int) (num : Nat) (made : List Ent) (r : AnsV) (p0 p1 p2 p3 p4 p5 : Nat) (kA : Option Addr) (kn kc : Nat) (A' : Option Addr) (n' c' : Nat) (es' : List KV) (ok : OkC op ks x) (h0 : BlkL w p0 [.pointer (some ⟨s, 0, none⟩)]) (h1 : BlkL w p1 [.int .i64 (i : Int)])
    (h2 : BlkL w p2 [.int .u64 (num : Int)]) (h3 : BlkL w p3 [.int .u8 (op : Int), .slice kA kn kc, .int .i64 x]) (h4 : BlkL w p4 [.slice A' n' c']) (h5 : BlkL w p5 [.bool true, .int .i64 (r.E : Int), .int .i64 r.N])
    (a0 : p0 ∉ (s :: b :: bw :: X)) (a1 : p1 ∉ (s :: b :: bw :: X)) (a2 : p2 ∉ (s :: b :: bw :: X)) (a3 : p3 ∉ (s :: b :: bw :: X)) (a4 : p4 ∉ (s :: b :: bw :: X)) (a5 : p5 ∉ (s :: b :: bw :: X)) (hka : Arg w w.heap.size kA kn kc ks) (ak : Apt (s :: b :: bw :: X) kA kn) (ck : kn ≤ 256) (hv : VerA w w.heap.size (s :: b :: bw :: X) A' n' c' es') (hm : es'.map KV.ent = made) (hw : WfL made) (hnum : num < 9223372036854775807) (hvn : ¬ v = num) :
    Calls Try.prog 112 #[.pointer (some ⟨p0, 0, none⟩), .pointer (some ⟨p1, 0, none⟩), .pointer (some ⟨p2, 0, none⟩), .pointer (some ⟨p3, 0, none⟩), .pointer (some ⟨p4, 0, none⟩), .pointer (some ⟨p5, 0, none⟩)] w
      (StEnd w s b bw X (k + 1) v (es.map KV.ent) fv nx i ⟨false, 0, 0⟩ (.read op ks x)) := by
  have hb0 : Below w.heap.size w (w.alloc (.cells #[.bool false, .int .i64 0, .int .i64 0] 79)).drew := ((Below.refl w.heap.size w).alloc (by simp) _).drew
  have c0 := h.c0
  have c1 := h.c1
  have fr1 := h.fr (i := 1) (by omega)
  have g0 := h0.cell 0 _ rfl
  have g1 := h1.cell 0 _ rfl
  have g2 := h2.cell 0 _ rfl
  have l0 := h0.lt
  have l1 := h1.lt
  have l2 := h2.lt
  obtain ⟨ls, lb, lbw⟩ := h.lts
  have HL := Lib.hid (fun w1 (hm : MachS w1 b bw 1 [v] 0 k ring) => by have := sSwap0 w1 b bw k v ring hm (by omega) i hi num (num + 1); rw [show decide (v = num) = false by simpa using hvn, if_neg hvn, show ((num + 1 : Nat) : Int) = (num : Int) + 1 by omega] at this; exact this)
  have hwr : IntKind.u64.wrap ((num : Int) + 1) = (num : Int) + 1 := by rw [IntKind.wrap_u64]; omega
  have HH := Lib.hid (h.below hb0)
  have HORIG := Lib.hid h
  have lift : ∀ {q : Nat} {xs : List Value}, BlkL w q xs → BlkL (w.alloc (.cells #[.bool false, .int .i64 0, .int .i64 0] 79)).drew q xs := fun hq => hq.below (hb0.mono (by omega))
  have HK0 := Lib.hid (And.intro (lift h0) (And.intro (lift h1) (lift h2)))
  have HK3 := Lib.hid (And.intro (lift h3) (And.intro (lift h4) (lift h5)))
  have HKA := Lib.hid (And.intro hka (And.intro (ak.new hka (Nat.le_refl _)) (And.intro ok ck)))
  have HV := Lib.hid (And.intro hv (And.intro hm hw))
  have HR := Lib.hid (BlkL.new w [.bool false, .int .i64 0, .int .i64 0] 79).drew
  have HB := Lib.hid hb0
  have HN0 := Lib.hid (And.intro a0 (And.intro a1 a2))
  have HN3 := Lib.hid (And.intro a3 (And.intro a4 a5))
  have hwm : w.heap.size ∉ (s :: b :: bw :: X) := h.nb
  have HWM := Lib.hid hwm
  have m2 : ∀ {q : Nat}, q ∉ (s :: b :: bw :: X) → q ∉ [b, bw] := fun hq hh => hq (by simp only [List.mem_cons, List.not_mem_nil, or_false] at hh ⊢; rcases hh with h | h <;> simp [h])
  have hsb : s ∉ [b, bw] := by simp; exact ⟨h.ne, h.ne'⟩
  have HNE := Lib.hid (And.intro (m2 a0) (And.intro (m2 a1) (And.intro (m2 a2) hsb)))
  clear h h0 h1 h2 h3 h4 h5 hka ak ok a0 a1 a2 a3 a4 a5 hb0 hwm hsb hv hm hw m2 lift
  go_enter Try.func112, Try.ntmps112
  go_wp2_with fail
  go_region_held3 (fun w' => w'.cell? ⟨p0, 0, none⟩ = some (.pointer (some ⟨s, 0, none⟩)) ∧ w'.cell? ⟨s, 0, none⟩ = some (.pointer (some ⟨b, 0, none⟩)) ∧ w'.cell? ⟨p1, 0, none⟩ = some (.int .i64 (i : Int)) ∧ w'.cell? ⟨p2, 0, none⟩ = some (.int .u64 (num : Int))) (go_keep)
    (((with_reducible refine (HL.out _ HH.out.m).mono ?_); rintro e w2 ⟨rfl, ⟨ring2, hm2⟩, hf2⟩; have k0 := HK0.out.1.off hf2 HNE.out.1; have k1 := HK0.out.2.1.off hf2 HNE.out.2.1; have k2 := HK0.out.2.2.off hf2 HNE.out.2.2.1; have n0 := k0.cell 0 _ rfl; have n1 := k1.cell 0 _ rfl; have n2 := k2.cell 0 _ rfl; have n3 := (hf2.cell (p := ⟨s, 0, none⟩) HH.out.lts.1 HNE.out.2.2.2).trans HH.out.c0; have HM := Lib.hid (And.intro hm2 hf2); clear hm2 hf2 k0 k1 k2))
  clear g0 g1 g2 l0 l1 l2 lb lbw c0 n0 n1 n2 n3 hwr
  obtain ⟨hm2, hf2⟩ := HM.out
  have hf3 : Off (s :: b :: bw :: X) _ w2 := hf2.mono (by simp)
  have HOF := Lib.hid (Off.trans (Off.of_below (S := [b, bw]) HB.out) hf2)
  have kr := HR.out.off hf3 HWM.out
  have k0 := HK0.out.1.off hf3 HN0.out.1
  have k1 := HK0.out.2.1.off hf3 HN0.out.2.1
  have k3 := HK3.out.1.off hf3 HN3.out.1
  have k4 := HK3.out.2.1.off hf3 HN3.out.2.1
  have k5 := HK3.out.2.2.off hf3 HN3.out.2.2
  have HM2 := Lib.hid hm2
  have hfs := (hf2.frozen (p := ⟨s, 1, none⟩) HH.out.lts.1 HNE.out.2.2.2).trans (HH.out.fr (i := 1) (by omega))
  have hcs := (hf2.cell (p := ⟨s, 1, none⟩) HH.out.lts.1 HNE.out.2.2.2).trans HH.out.c1
  have hsz2 := hf2.size
  have hws : w.heap.size < w2.heap.size := Nat.lt_of_lt_of_le (by simp) hsz2
  have r0 := kr.cell 0 _ rfl
  have r1 := kr.cell 1 _ rfl
  have r2 := kr.cell 2 _ rfl
  have z0 := kr.froz 0 (by simp)
  have z1 := kr.froz 1 (by simp)
  have z2 := kr.froz 2 (by simp)
  have e0 := k0.cell 0 _ rfl
  have e1 := k1.cell 0 _ rfl
  have e30 := k3.cell 0 _ rfl
  have e31 := k3.cell 1 _ rfl
  have e32 := k3.cell 2 _ rfl
  have e4 := k4.cell 0 _ rfl
  have e50 := k5.cell 0 _ rfl
  have e51 := k5.cell 1 _ rfl
  have e52 := k5.cell 2 _ rfl
  have j0 := k0.lt
  have j1 := k1.lt
  have j3 := k3.lt
  have j4 := k4.lt
  have j5 := k5.lt
  have hn5 : p5 ≠ s := fun hh => HN3.out.2.2 (by simp [hh])
  have hnws : w.heap.size ≠ s := fun hh => HWM.out (by simp [hh])
  have KR := Lib.hid kr
  clear k0 k1 k3 k4 k5 kr hm2 hf2 hf3 HM HL
  have hka2 := (HKA.out.1.off (Nat.le_refl _) HOF.out (fun hn a ha hh => HKA.out.2.1 hn a ha (by simp only [List.mem_cons, List.not_mem_nil, or_false] at hh ⊢; rcases hh with h | h <;> simp [h]))).more HOF.out.size
  have hrd := read_any w2 s i (w.heap.size :: s :: b :: bw :: X) op ks x kA kn kc (fun y hy => by
    rcases List.mem_cons.1 hy with h1 | h1
    · omega
    · have := HORIG.out.all y h1; omega) HKA.out.2.2.1 hka2 HKA.out.2.1 HKA.out.2.2.2
  have HRD := Lib.hid hrd
  clear hka2 hrd
  go_wp2_with fail
  with_reducible refine HRD.out.mono ?_
  rintro e w6 ⟨f, rfl, hnx, hb6⟩
  have kr6 := KR.out.below hb6
  clear r0 r1 r2 z0 z1 z2 e0 e1 e30 e31 e32 e4 e50 e51 e52 hfs hcs
  have r0 := kr6.cell 0 _ rfl
  have r1 := kr6.cell 1 _ rfl
  have r2 := kr6.cell 2 _ rfl
  have z0 := kr6.froz 0 (by simp)
  have z1 := kr6.froz 1 (by simp)
  have z2 := kr6.froz 2 (by simp)
  have rl6 := kr6.lt
  have KR6 := Lib.hid kr6
  have HNX := Lib.hid (And.intro hnx hb6)
  clear kr6 hnx hb6 HRD
  go_wp2
  have bz := KR6.out.put3 (.bool false) (.int .i64 0) (.int .i64 0)
  have t0 := bz.cell 0 _ rfl
  have t1 := bz.cell 1 _ rfl
  have t2 := bz.cell 2 _ rfl
  clear bz r0 r1 r2 z0 z1 z2
  have hof := (HOF.out.trans ((Off.of_below (S := [b, bw]) HNX.out.2).mono (by simp))).put3 (r := w.heap.size) (Nat.le_refl _) (.bool false) (.int .i64 0) (.int .i64 0)
  have hof3 : Off [s, b, bw] w _ := hof.mono (by simp)
  have hm6 := HM2.out.off (S := [w.heap.size]) ((Off.of_below (S := [w.heap.size]) HNX.out.2).put3' (r := w.heap.size) (by simp) (.bool false) (.int .i64 0) (.int .i64 0)) (fun hh => HWM.out (by simp at hh ⊢; omega)) (fun hh => HWM.out (by simp at hh ⊢; omega))
  have hnf := (HNX.out.1.off (((Off.refl (w.heap.size :: s :: b :: bw :: X) w6).put3' (r := w.heap.size) (by simp) (.bool false) (.int .i64 0) (.int .i64 0)))).weak (S := (s :: b :: bw :: X)) (fun y hy => List.mem_cons_of_mem _ hy)
  refine bodyPost_ret (v := .tuple #[.agg #[.bool false, .int .i64 0, .int .i64 0], f]) (by simp [results, Try.results112, go_sem, t0, t1, t2]) rfl ?_
  exact ⟨f, A, n, c, es, ring2, rfl, rfl, HORIG.out.stepM hof HNE.out.2.2.2 hof3.upX hm6 (by have := HORIG.out.vk; omega) HORIG.out.v1, hnf, hof3⟩

end Go.Proofs.Ytpjgpiiibgogeaa
