/- Contract: the function value that reads a version. -/
import Derived.Test.YtpjgpiiibgogeaaShU
namespace Go.Proofs.Ytpjgpiiibgogeaa
open Go.RowKit
set_option maxRecDepth 100000
set_option linter.unusedVariables false

theorem Below.bcell {W w1 : World} (hb : Below W.heap.size W w1) : (∀ b o, b < W.heap.size → w1.cell? ⟨b, o, none⟩ = W.cell? ⟨b, o, none⟩) ∧ (∀ b o, b < W.heap.size → w1.frozen? ⟨b, o, none⟩ = W.frozen? ⟨b, o, none⟩) :=
  ⟨fun b o h => hb.cell (p := ⟨b, o, none⟩) h, fun b o h => hb.frozen (p := ⟨b, o, none⟩) h⟩
theorem ShR.stepM {w w' : World} {s b bw : Nat} {X : List Nat} {k v k' v' n c : Nat} {A : Option Addr} {es : List KV} {fv : Nat → Value} {nx : Nat → Nx} {ring ring' : List Value} {S : List Nat} (h : ShR w s b bw X k v A n c es fv nx ring) (hf : Off S w w') (hs : s ∉ S) (hf3 : Off (s :: b :: bw :: X) w w') (hm : MachS w' b bw 1 [v'] 0 k' ring') (hv : v' ≤ k') (h1 : 1 ≤ v') : ShR w' s b bw X k' v' A n c es fv nx ring' :=
  ⟨h.blk.off hf hs, hm, (h.ver.off (Nat.le_refl _) hf3).more hf3.size, h.wf, fun i hi => (h.nxv i hi).off hf3, hv, h1, h.ne, h.ne', fun x hx => Nat.lt_of_lt_of_le (h.hX x hx) hf.size⟩

structure ResV where
  d : Bool
  E : Int
  N : Int
/-- What a read brings, and what comes behind it. -/
def rdRes (op : Nat) (r : AnsV) : ResV := if chgV op r = true then ⟨false, 0, 0⟩ else ⟨true, r.E, r.N⟩
def rdNx (op : Nat) (ks : List Nat) (x : Int) (v : Nat) (p : AnsV × List Ent) : Nx := if chgV op p.1 = true then .write op ks x v p.2 p.1 else .none
def RdEnd (w : World) (s b bw : Nat) (X : List Nat) (k v : Nat) (A : Option Addr) (n c : Nat) (es : List KV) (fv : Nat → Value) (nx : Nat → Nx) (i : Nat) (q : ResV) (y : Nx) (e : Ending) (w' : World) : Prop :=
  ∃ f ring, e = .returned (.tuple #[.agg #[.bool q.d, .int .i64 q.E, .int .i64 q.N], f]) ∧ ShR w' s b bw X k v A n c es fv nx ring ∧ NxV w' s i (s :: b :: bw :: X) y f ∧ Off [b] w w'
theorem Off.put3 {w w' : World} {S : List Nat} (h : Off S w w') {r : Nat} (hr : w.heap.size ≤ r) (v0 v1 v2 : Value) : Off S w (((w'.setCell ⟨r, 0, none⟩ v0).setCell ⟨r, 1, none⟩ v1).setCell ⟨r, 2, none⟩ v2) :=
  ((h.setNew hr _).setNew hr _).setNew hr _
theorem Off.put3' {w w' : World} {S : List Nat} (h : Off S w w') {r : Nat} (hr : r ∈ S) (v0 v1 v2 : Value) : Off S w (((w'.setCell ⟨r, 0, none⟩ v0).setCell ⟨r, 1, none⟩ v1).setCell ⟨r, 2, none⟩ v2) :=
  ((h.setCell (by exact hr) _).setCell (by exact hr) _).setCell (by exact hr) _
theorem OwnC.put3 {w : World} {B k n c : Nat} {T : TypeId} {A : Option Addr} {cs : List Value} (h : OwnC w B T k A n c cs) {q : Nat} (hq : q < B) (v0 v1 v2 : Value) : OwnC (((w.setCell ⟨q, 0, none⟩ v0).setCell ⟨q, 1, none⟩ v1).setCell ⟨q, 2, none⟩ v2) B T k A n c cs :=
  ((h.other hq).other hq).other hq

set_option maxHeartbeats 12800000 in
theorem read1_any (w : World) (s b bw : Nat) (X : List Nat) (k v n c i : Nat) (A : Option Addr) (es : List KV) (fv : Nat → Value) (nx : Nat → Nx) (ring : List Value) (h : ShR w s b bw X k v A n c es fv nx ring) (hk : k < 9223372036854775807) (hi : i < 64)
    (op : Nat) (ks : List Nat) (x : Int) (p0 p1 p2 : Nat) (kA : Option Addr) (kn kc : Nat) (ok : OkC op ks x) (h0 : BlkL w p0 [.pointer (some ⟨s, 0, none⟩)]) (h1 : BlkL w p1 [.int .i64 (i : Int)]) (h2 : BlkL w p2 [.int .u8 (op : Int), .slice kA kn kc, .int .i64 x])
    (a0 : p0 ∉ (s :: b :: bw :: X)) (a1 : p1 ∉ (s :: b :: bw :: X)) (a2 : p2 ∉ (s :: b :: bw :: X)) (hka : Arg w w.heap.size kA kn kc ks) (ak : Apt (s :: b :: bw :: X) kA kn) (ck : kn ≤ 256) :
    Calls Try.prog 86 #[.pointer (some ⟨p0, 0, none⟩), .pointer (some ⟨p1, 0, none⟩), .pointer (some ⟨p2, 0, none⟩)] w
      (RdEnd w s b bw X (k + 1) v A n c es fv nx i (rdRes op (ofV op ks x (es.map KV.ent)).1) (rdNx op ks x v (ofV op ks x (es.map KV.ent)))) := by
  have c0 := h.c0
  have c1 := h.c1
  have g0 := h0.cell 0 _ rfl
  have g1 := h1.cell 0 _ rfl
  have g2 := h2.cell 0 _ rfl
  have g3 := h2.cell 1 _ rfl
  have g4 := h2.cell 2 _ rfl
  have l0 := h0.lt
  have l1 := h1.lt
  have l2 := h2.lt
  have hlts := h.lts
  obtain ⟨ls, lb, lbw⟩ := hlts
  have HL := Lib.hid (fun w1 (hm : MachS w1 b bw 1 [v] 0 k ring) => sLoad0 w1 b bw k v ring hm hk i hi)
  have hb0 : Below w.heap.size w (w.alloc (.cells #[.bool false, .int .i64 0, .int .i64 0] 79)).drew := ((Below.refl w.heap.size w).alloc (by simp) _).drew
  have HH := Lib.hid (h.below hb0)
  have HORIG := Lib.hid h
  have HK := Lib.hid (And.intro (h0.below (hb0.mono (by omega))) (And.intro (h1.below (hb0.mono (by omega))) (h2.below (hb0.mono (by omega)))))
  have HAK := Lib.hid (And.intro (ak.new hka (Nat.le_refl _)) (h.ver.new (Nat.le_refl _)))
  have HKA0 := Lib.hid hka
  have HA := Lib.hid (And.intro ((hka.below hb0).more (B' := (w.alloc (.cells #[.bool false, .int .i64 0, .int .i64 0] 79)).drew.heap.size) hb0.size) (And.intro ak (And.intro ok ck)))
  have HR := Lib.hid (BlkL.new w [.bool false, .int .i64 0, .int .i64 0] 79).drew
  have HB := Lib.hid hb0
  have HN := Lib.hid (And.intro a0 (And.intro a1 a2))
  have hwm : w.heap.size ∉ (s :: b :: bw :: X) := h.nb
  have HWM := Lib.hid hwm
  have ha0 : p0 ∉ [b] := fun hh => a0 (by simp at hh ⊢; exact .inr (.inl hh))
  have ha1 : p1 ∉ [b] := fun hh => a1 (by simp at hh ⊢; exact .inr (.inl hh))
  have hsb : s ∉ [b] := by simpa using h.ne
  have HNE := Lib.hid (And.intro ha0 (And.intro ha1 hsb))
  clear h h0 h1 h2 hka ak ok a0 a1 a2 hb0 hwm ha0 ha1 hsb
  go_enter Try.func86, Try.ntmps86
  go_wp2_with fail
  go_region_held3 (fun w' => w'.cell? ⟨p0, 0, none⟩ = some (.pointer (some ⟨s, 0, none⟩)) ∧ w'.cell? ⟨s, 0, none⟩ = some (.pointer (some ⟨b, 0, none⟩)) ∧ w'.cell? ⟨p1, 0, none⟩ = some (.int .i64 (i : Int))) (go_keep)
    (((with_reducible refine (HL.out _ HH.out.m).mono ?_); rintro e w2 ⟨rfl, ⟨ring2, hm2⟩, hf2⟩; have k0 := HK.out.1.off hf2 HNE.out.1; have k1 := HK.out.2.1.off hf2 HNE.out.2.1; have n0 := k0.cell 0 _ rfl; have n1 := k1.cell 0 _ rfl; have n2 := (hf2.cell (p := ⟨s, 0, none⟩) HH.out.lts.1 HNE.out.2.2).trans HH.out.c0; have HM := Lib.hid (And.intro hm2 hf2); clear hm2 hf2 k0 k1))
  clear g0 g1 g2 g3 g4 l0 l1 l2 ls lb lbw c0 c1 n0 n1 n2
  obtain ⟨hm2, hf2⟩ := HM.out
  have hf3 : Off (s :: b :: bw :: X) _ w2 := hf2.mono (by simp)
  have R2 := HH.out.stepM hf2 HNE.out.2.2 hf3 hm2 (by have := HH.out.vk; omega) HH.out.v1
  have k0 := HK.out.1.off hf3 HN.out.1
  have k1 := HK.out.2.1.off hf3 HN.out.2.1
  have k2 := HK.out.2.2.off hf3 HN.out.2.2
  have kr := HR.out.off hf3 HWM.out
  have hka := (HA.out.1.off (Nat.le_refl _) hf3 HA.out.2.1).more hf3.size
  have HMM := Lib.hid hm2
  clear HM HH HK HR hm2 HL
  have HOF := Lib.hid (Off.trans (Off.of_below (S := [b]) HB.out) hf2)
  have HO := Lib.hid (fun (W : World) (hb : Below w2.heap.size w2 W) => of_any W (s :: b :: bw :: X) kA kn kc op x A n c es ks ((R2.ver.below hb).more hb.size) ((hka.below hb).more hb.size) R2.wf HA.out.2.2.1.o1 HA.out.2.2.1.o4 HA.out.2.2.1.v2)
  generalize hofK : ofK op kA kn kc ks x es = es' at HO
  generalize hrr : (ofV op ks x (es.map KV.ent)).1 = r at HO
  have HOE := Lib.hid (show (ofV op ks x (es.map KV.ent)).2 = es'.map KV.ent by rw [← hofK]; exact (ofK_ent op kA kn kc ks x es).symm)
  have HOW := Lib.hid (show WfL (es'.map KV.ent) by rw [← HOE.out]; exact of_wf R2.wf op ks x HA.out.2.2.1.v2)
  have HMEM := Lib.hid (fun e (he : e ∈ es') => ofK_mem (by rw [hofK]; exact he))
  have HOK := Lib.hid (And.intro hofK hrr)
  clear hofK hrr
  have HO1 := Lib.hid (HO.out w2.drew (Below.refl _ _).drew)
  have HO2 := Lib.hid (HO.out (w2.alloc (.cells #[.bool false, .int .i64 0, .int .i64 0] 79)).drew ((Below.refl _ _).alloc (Nat.le_refl _) _).drew)
  have K2 := Lib.hid (BlkL.new w2 [.bool false, .int .i64 0, .int .i64 0] 79).drew
  have g0 := k0.cell 0 _ rfl
  have g2 := k2.cell 0 _ rfl
  have g3 := k2.cell 1 _ rfl
  have g4 := k2.cell 2 _ rfl
  have c1 := R2.c1
  have l0 := k0.lt
  have l2 := k2.lt
  have ls := R2.lts.1
  have HLS := Lib.hid (show s < w2.drew.heap.size from ls)
  have HC1 := Lib.hid (show w2.drew.cell? ⟨s, 1, none⟩ = some (.slice A n c) from c1)
  have HLS2 := Lib.hid (show s < (w2.alloc (.cells #[.bool false, .int .i64 0, .int .i64 0] 79)).drew.heap.size by simp; omega)
  have HC2 := Lib.hid (show (w2.alloc (.cells #[.bool false, .int .i64 0, .int .i64 0] 79)).drew.cell? ⟨s, 1, none⟩ = some (.slice A n c) from (World.cell?_alloc_lt w2 _ ⟨s, 1, none⟩ ls).trans c1)
  have R2h := Lib.hid R2
  have HK := Lib.hid (And.intro k0 (And.intro k1 k2))
  have HR := Lib.hid kr
  have HKA := Lib.hid hka
  have HF3 := Lib.hid hf3
  have rl := kr.lt
  clear R2 k0 k1 k2 kr hka hf2 hf3
  go_wp2_with fail
  go_region_held3 (fun w' => w'.cell? ⟨p2, 0, none⟩ = some (.int .u8 (op : Int)) ∧ w'.cell? ⟨p2, 1, none⟩ = some (.slice kA kn kc) ∧ w'.cell? ⟨p2, 2, none⟩ = some (.int .i64 x) ∧ w'.cell? ⟨p0, 0, none⟩ = some (.pointer (some ⟨s, 0, none⟩)) ∧ w'.cell? ⟨s, 1, none⟩ = some (.slice A n c))
    (first | go_keep | (refine ⟨?_, ?_, ?_, ?_, ?_⟩ <;> (rw [World.cell?_setCell_other _ _ _ _ (by simp <;> omega), World.cell?_setCell_other _ _ _ _ (by simp <;> omega), World.cell?_setCell_other _ _ _ _ (by simp <;> omega)]; assumption)))
    (first
    | ((with_reducible refine (HO1.out).mono ?_); rintro e w3 ⟨A', c', rfl, ho3, hb3⟩; have j2 := HK.out.2.2.drew.below hb3; have j0 := HK.out.1.drew.below hb3; have y0 := j2.cell 0 _ rfl; have y1 := j2.cell 1 _ rfl; have y2 := j2.cell 2 _ rfl; have y3 := j0.cell 0 _ rfl; have y4 := (hb3.cell (p := ⟨s, 1, none⟩) HLS.out).trans HC1.out; clear j2 j0; have hz3 := hb3.size; have KQ := Lib.hid (And.intro ho3 hb3); clear ho3 hb3)
    | ((with_reducible refine (HO2.out).mono ?_); rintro e w3 ⟨A', c', rfl, ho3, hb3⟩; have j2 := (HK.out.2.2.alloc _).drew.below hb3; have j0 := (HK.out.1.alloc _).drew.below hb3; have y0 := j2.cell 0 _ rfl; have y1 := j2.cell 1 _ rfl; have y2 := j2.cell 2 _ rfl; have y3 := j0.cell 0 _ rfl; have y4 := (hb3.cell (p := ⟨s, 1, none⟩) HLS2.out).trans HC2.out; clear j2 j0; have kq := K2.out.below hb3; have m0 := kq.cell 0 _ rfl; have m1 := kq.cell 1 _ rfl; have m2 := kq.cell 2 _ rfl; have f0 := kq.froz 0 (by simp); have f1 := kq.froz 1 (by simp); have f2 := kq.froz 2 (by simp); have ml := kq.lt; have KQ := Lib.hid (And.intro ho3 (And.intro hb3 kq)); clear ho3 hb3 kq))
  · skip
    have hq1 := BlkL.new w3 [.bool true, .int .i64 (r.E : Int), .int .i64 r.N] 79
    have hqs : w2.heap.size ≤ w3.heap.size := hz3
    have hqn : w3.heap.size < (w3.alloc (.cells #[.bool true, .int .i64 (r.E : Int), .int .i64 r.N] 79)).heap.size := by simp
    have hx1 : Below w2.heap.size w2 w3 := (show Below w2.heap.size w2 w2.drew from (Below.refl _ _).drew).trans (show Below w2.heap.size w2.drew w3 from KQ.out.2)
    have hbx : Below w2.heap.size w2 (w3.alloc (.cells #[.bool true, .int .i64 (r.E : Int), .int .i64 r.N] 79)) := hx1.alloc hx1.size _
    have hox := (show OwnC w3 w2.heap.size TE 2 A' es'.length c' (KVs es') from KQ.out.1).below ((Below.refl _ w3).alloc (Nat.le_refl _) (.cells #[.bool true, .int .i64 (r.E : Int), .int .i64 r.N] 79))
    clear KQ y0 y1 y2 y3 y4
    generalize w3.alloc (.cells #[.bool true, .int .i64 (r.E : Int), .int .i64 r.N] 79) = w4 at *
    generalize w3.heap.size = q at *
    have hs4 := hbx.size
    have k0 := HK.out.1.below (hbx.mono (by omega))
    have k1 := HK.out.2.1.below (hbx.mono (by omega))
    have k2 := HK.out.2.2.below (hbx.mono (by omega))
    have kr := HR.out.below (hbx.mono (by omega))
    have d0 := k2.cell 0 _ rfl
    have d1 := k2.cell 1 _ rfl
    have d2 := k2.cell 2 _ rfl
    have d3 := hq1.cell 0 _ rfl
    have d4 := hq1.cell 1 _ rfl
    have d5 := hq1.cell 2 _ rfl
    have dl := k2.lt
    have HKK := Lib.hid (And.intro k0 (And.intro k1 (And.intro kr hq1)))
    have HX4 := Lib.hid (And.intro hbx hox)
    have HC := Lib.hid (changes_any w4 kA kn kc op x r (by omega))
    clear k0 k1 k2 kr hq1 hbx hox g0 g2 g3 g4 c1 l0 l2 ls HO HO1 HO2 K2 HLS HC1 HLS2 HC2 hx1
    go_wp2_with fail
    with_reducible refine HC.out.mono ?_
    rintro e w5 ⟨rfl, hb5⟩
    have k0 := HKK.out.1.below hb5
    have k1 := HKK.out.2.1.below hb5
    have kr := HKK.out.2.2.1.below hb5
    have kq := HKK.out.2.2.2.below hb5
    have hx5 := HX4.out.1.trans (hb5.mono hs4)
    have ho5 := HX4.out.2.below hb5
    have e0 := k0.cell 0 _ rfl
    have e1 := k1.cell 0 _ rfl
    have el0 := k0.lt
    have el1 := k1.lt
    have r0 := kr.cell 0 _ rfl
    have r1 := kr.cell 1 _ rfl
    have r2 := kr.cell 2 _ rfl
    have z0 := kr.froz 0 (by simp)
    have z1 := kr.froz 1 (by simp)
    have z2 := kr.froz 2 (by simp)
    have rl5 := kr.lt
    have m3 := kq.cell 0 _ rfl
    have m4 := kq.cell 1 _ rfl
    have m5 := kq.cell 2 _ rfl
    have ml5 := kq.lt
    have d0' := (HK.out.2.2.below (hx5.mono (by omega)))
    have d0 := d0'.cell 0 _ rfl
    have d1 := d0'.cell 1 _ rfl
    have d2 := d0'.cell 2 _ rfl
    have HKR := Lib.hid kr
    have HX5 := Lib.hid (And.intro hx5 ho5)
    clear k0 k1 kr kq hx5 ho5 hb5 d0' HC HKK HX4
    have HMr := Lib.hid (And.intro HORIG.out (And.intro HMM.out HOF.out))
    rcases hch : chgV op r with _ | _
    · have HCH := Lib.hid hch
      clear hch
      go_wp2
      have bz := HKR.out.put3 (.bool true) (.int .i64 (r.E : Int)) (.int .i64 r.N)
      have t0 := bz.cell 0 _ rfl
      have t1 := bz.cell 1 _ rfl
      have t2 := bz.cell 2 _ rfl
      clear bz r0 r1 r2 z0 z1 z2
      have hof := (HMr.out.2.2.trans ((Off.of_below (S := [b]) HX5.out.1).mono (by simp))).put3 (r := w.heap.size) (Nat.le_refl _) (.bool true) (.int .i64 (r.E : Int)) (.int .i64 r.N)
      have hm5 := HMr.out.2.1.off (S := [w.heap.size]) ((Off.of_below (S := [w.heap.size]) HX5.out.1).put3' (r := w.heap.size) (by simp) (.bool true) (.int .i64 (r.E : Int)) (.int .i64 r.N)) (fun hh => HWM.out (by simp at hh ⊢; omega)) (fun hh => HWM.out (by simp at hh ⊢; omega))
      refine bodyPost_ret (v := .tuple #[.agg #[.bool true, .int .i64 (r.E : Int), .int .i64 r.N], .nilFunc]) (by simp [results, Try.results86, go_sem, t0, t1, t2]) rfl ?_
      refine ⟨.nilFunc, ring2, ?_, HMr.out.1.stepM hof HNE.out.2.2 (hof.mono (by simp)) hm5 (by have := HMr.out.1.vk; omega) HMr.out.1.v1, ?_, hof⟩
      · rw [HOK.out.2, rdRes, HCH.out]; rfl
      · rw [rdNx, HOK.out.2, HCH.out]; exact .none
    · have HCH := Lib.hid hch
      clear hch
      have hka5 := (HKA.out.below HX5.out.1).more HX5.out.1.size
      have hsz5 := HX5.out.1.size
      have hv5 : VerA w5 w5.heap.size (w.heap.size :: s :: b :: bw :: X) A' es'.length c' es' := by
        refine HX5.out.2.ver (fun y hy => ?_) (fun e he => ?_)
        · rcases List.mem_cons.1 hy with h1 | h1
          · omega
          · have := HMr.out.1.all y h1; omega
        · rcases HMEM.out e he with h1 | ⟨h1, h2, h3, h4⟩
          · have hke := HAK.out.2.key e h1
            refine ⟨?_, hke.2.1, hke.2.2⟩
            have h5 := (R2h.out.ver.key e h1).1
            exact (h5.below HX5.out.1).more hsz5
          · rw [h1, h2, h3, h4]
            exact ⟨hka5, HAK.out.1, ck⟩
      have hw5 := write_any w5 s i (w.heap.size :: s :: b :: bw :: X) op ks x kA kn kc v A' es'.length c' es' r (fun y hy => by
        rcases List.mem_cons.1 hy with h1 | h1
        · omega
        · have := HMr.out.1.all y h1; omega) HA.out.2.2.1 hka5 HAK.out.1 ck hv5 HOW.out (by have := HMr.out.1.vk; omega)
      have HW5 := Lib.hid hw5
      clear hka5 hv5 hw5
      go_wp2_with fail
      with_reducible refine HW5.out.mono ?_
      rintro e w6 ⟨f, rfl, hnx, hb6⟩
      have kr6 := HKR.out.below hb6
      clear r0 r1 r2 z0 z1 z2 e0 e1 el0 el1 m3 m4 m5 ml5 d0 d1 d2 rl5
      have r0 := kr6.cell 0 _ rfl
      have r1 := kr6.cell 1 _ rfl
      have r2 := kr6.cell 2 _ rfl
      have z0 := kr6.froz 0 (by simp)
      have z1 := kr6.froz 1 (by simp)
      have z2 := kr6.froz 2 (by simp)
      have rl6 := kr6.lt
      have HKR6 := Lib.hid kr6
      have HNX := Lib.hid (And.intro hnx hb6)
      clear kr6 hnx hb6 HW5
      go_wp2
      have bz := HKR6.out.put3 (.bool false) (.int .i64 0) (.int .i64 0)
      have t0 := bz.cell 0 _ rfl
      have t1 := bz.cell 1 _ rfl
      have t2 := bz.cell 2 _ rfl
      clear bz r0 r1 r2 z0 z1 z2
      have hx6 := HX5.out.1.trans (HNX.out.2.mono hsz5)
      have hof := (HMr.out.2.2.trans ((Off.of_below (S := [b]) hx6).mono (by simp))).put3 (r := w.heap.size) (Nat.le_refl _) (.bool false) (.int .i64 0) (.int .i64 0)
      have hm5 := HMr.out.2.1.off (S := [w.heap.size]) ((Off.of_below (S := [w.heap.size]) hx6).put3' (r := w.heap.size) (by simp) (.bool false) (.int .i64 0) (.int .i64 0)) (fun hh => HWM.out (by simp at hh ⊢; omega)) (fun hh => HWM.out (by simp at hh ⊢; omega))
      have hnf := (HNX.out.1.off (((Off.refl (w.heap.size :: s :: b :: bw :: X) w6).put3' (r := w.heap.size) (by simp) (.bool false) (.int .i64 0) (.int .i64 0)))).weak (S := (s :: b :: bw :: X)) (fun y hy => List.mem_cons_of_mem _ hy)
      refine bodyPost_ret (v := .tuple #[.agg #[.bool false, .int .i64 0, .int .i64 0], f]) (by simp [results, Try.results86, go_sem, t0, t1, t2]) rfl ?_
      refine ⟨f, ring2, ?_, HMr.out.1.stepM hof HNE.out.2.2 (hof.mono (by simp)) hm5 (by have := HMr.out.1.vk; omega) HMr.out.1.v1, ?_, hof⟩
      · rw [HOK.out.2, rdRes, HCH.out]; rfl
      · rw [rdNx, HOK.out.2, HCH.out, if_pos rfl, HOE.out]; exact hnf
  · skip
    have hqs : w2.heap.size ≤ w2.heap.size := Nat.le_refl _
    have hq1 := KQ.out.2.2.put3 (.bool true) (.int .i64 (r.E : Int)) (.int .i64 r.N)
    have hx0 : Below w2.heap.size w2 (w2.alloc (.cells #[.bool false, .int .i64 0, .int .i64 0] 79)).drew := ((Below.refl _ _).alloc (Nat.le_refl _) _).drew
    have hx1 : Below w2.heap.size w2 w3 := hx0.trans (KQ.out.2.1.mono hx0.size)
    have hbx := below_put3 hx1 (b := w2.heap.size) (Nat.le_refl _) (.bool true) (.int .i64 (r.E : Int)) (.int .i64 r.N)
    have hqn := hq1.lt
    have hsz : (w2.alloc (.cells #[.bool false, .int .i64 0, .int .i64 0] 79)).drew.heap.size = w2.heap.size + 1 := by simp
    have hox := (KQ.out.1.put3 (q := w2.heap.size) (by rw [hsz]; omega) (.bool true) (.int .i64 (r.E : Int)) (.int .i64 r.N)).mono (B' := w2.heap.size) (by rw [hsz]; omega)
    clear KQ y0 y1 y2 y3 y4 m0 m1 m2 f0 f1 f2 ml hx0 hsz
    generalize ((w3.setCell ⟨w2.heap.size, 0, none⟩ (.bool true)).setCell ⟨w2.heap.size, 1, none⟩ (.int .i64 (r.E : Int))).setCell ⟨w2.heap.size, 2, none⟩ (.int .i64 r.N) = w4 at *
    generalize hqq : w2.heap.size = q at hq1 hqn ⊢
    have hqs : w2.heap.size ≤ q := by omega
    clear hqq
    have hs4 := hbx.size
    have k0 := HK.out.1.below (hbx.mono (by omega))
    have k1 := HK.out.2.1.below (hbx.mono (by omega))
    have k2 := HK.out.2.2.below (hbx.mono (by omega))
    have kr := HR.out.below (hbx.mono (by omega))
    have d0 := k2.cell 0 _ rfl
    have d1 := k2.cell 1 _ rfl
    have d2 := k2.cell 2 _ rfl
    have d3 := hq1.cell 0 _ rfl
    have d4 := hq1.cell 1 _ rfl
    have d5 := hq1.cell 2 _ rfl
    have dl := k2.lt
    have HKK := Lib.hid (And.intro k0 (And.intro k1 (And.intro kr hq1)))
    have HX4 := Lib.hid (And.intro hbx hox)
    have HC := Lib.hid (changes_any w4 kA kn kc op x r (by omega))
    clear k0 k1 k2 kr hq1 hbx hox g0 g2 g3 g4 c1 l0 l2 ls HO HO1 HO2 K2 HLS HC1 HLS2 HC2 hx1
    go_wp2_with fail
    with_reducible refine HC.out.mono ?_
    rintro e w5 ⟨rfl, hb5⟩
    have k0 := HKK.out.1.below hb5
    have k1 := HKK.out.2.1.below hb5
    have kr := HKK.out.2.2.1.below hb5
    have kq := HKK.out.2.2.2.below hb5
    have hx5 := HX4.out.1.trans (hb5.mono hs4)
    have ho5 := HX4.out.2.below hb5
    have e0 := k0.cell 0 _ rfl
    have e1 := k1.cell 0 _ rfl
    have el0 := k0.lt
    have el1 := k1.lt
    have r0 := kr.cell 0 _ rfl
    have r1 := kr.cell 1 _ rfl
    have r2 := kr.cell 2 _ rfl
    have z0 := kr.froz 0 (by simp)
    have z1 := kr.froz 1 (by simp)
    have z2 := kr.froz 2 (by simp)
    have rl5 := kr.lt
    have m3 := kq.cell 0 _ rfl
    have m4 := kq.cell 1 _ rfl
    have m5 := kq.cell 2 _ rfl
    have ml5 := kq.lt
    have d0' := (HK.out.2.2.below (hx5.mono (by omega)))
    have d0 := d0'.cell 0 _ rfl
    have d1 := d0'.cell 1 _ rfl
    have d2 := d0'.cell 2 _ rfl
    have HKR := Lib.hid kr
    have HX5 := Lib.hid (And.intro hx5 ho5)
    clear k0 k1 kr kq hx5 ho5 hb5 d0' HC HKK HX4
    have HMr := Lib.hid (And.intro HORIG.out (And.intro HMM.out HOF.out))
    rcases hch : chgV op r with _ | _
    · have HCH := Lib.hid hch
      clear hch
      go_wp2
      have bz := HKR.out.put3 (.bool true) (.int .i64 (r.E : Int)) (.int .i64 r.N)
      have t0 := bz.cell 0 _ rfl
      have t1 := bz.cell 1 _ rfl
      have t2 := bz.cell 2 _ rfl
      clear bz r0 r1 r2 z0 z1 z2
      have hof := (HMr.out.2.2.trans ((Off.of_below (S := [b]) HX5.out.1).mono (by simp))).put3 (r := w.heap.size) (Nat.le_refl _) (.bool true) (.int .i64 (r.E : Int)) (.int .i64 r.N)
      have hm5 := HMr.out.2.1.off (S := [w.heap.size]) ((Off.of_below (S := [w.heap.size]) HX5.out.1).put3' (r := w.heap.size) (by simp) (.bool true) (.int .i64 (r.E : Int)) (.int .i64 r.N)) (fun hh => HWM.out (by simp at hh ⊢; omega)) (fun hh => HWM.out (by simp at hh ⊢; omega))
      refine bodyPost_ret (v := .tuple #[.agg #[.bool true, .int .i64 (r.E : Int), .int .i64 r.N], .nilFunc]) (by simp [results, Try.results86, go_sem, t0, t1, t2]) rfl ?_
      refine ⟨.nilFunc, ring2, ?_, HMr.out.1.stepM hof HNE.out.2.2 (hof.mono (by simp)) hm5 (by have := HMr.out.1.vk; omega) HMr.out.1.v1, ?_, hof⟩
      · rw [HOK.out.2, rdRes, HCH.out]; rfl
      · rw [rdNx, HOK.out.2, HCH.out]; exact .none
    · have HCH := Lib.hid hch
      clear hch
      have hka5 := (HKA.out.below HX5.out.1).more HX5.out.1.size
      have hsz5 := HX5.out.1.size
      have hv5 : VerA w5 w5.heap.size (w.heap.size :: s :: b :: bw :: X) A' es'.length c' es' := by
        refine HX5.out.2.ver (fun y hy => ?_) (fun e he => ?_)
        · rcases List.mem_cons.1 hy with h1 | h1
          · omega
          · have := HMr.out.1.all y h1; omega
        · rcases HMEM.out e he with h1 | ⟨h1, h2, h3, h4⟩
          · have hke := HAK.out.2.key e h1
            refine ⟨?_, hke.2.1, hke.2.2⟩
            have h5 := (R2h.out.ver.key e h1).1
            exact (h5.below HX5.out.1).more hsz5
          · rw [h1, h2, h3, h4]
            exact ⟨hka5, HAK.out.1, ck⟩
      have hw5 := write_any w5 s i (w.heap.size :: s :: b :: bw :: X) op ks x kA kn kc v A' es'.length c' es' r (fun y hy => by
        rcases List.mem_cons.1 hy with h1 | h1
        · omega
        · have := HMr.out.1.all y h1; omega) HA.out.2.2.1 hka5 HAK.out.1 ck hv5 HOW.out (by have := HMr.out.1.vk; omega)
      have HW5 := Lib.hid hw5
      clear hka5 hv5 hw5
      go_wp2_with fail
      with_reducible refine HW5.out.mono ?_
      rintro e w6 ⟨f, rfl, hnx, hb6⟩
      have kr6 := HKR.out.below hb6
      clear r0 r1 r2 z0 z1 z2 e0 e1 el0 el1 m3 m4 m5 ml5 d0 d1 d2 rl5
      have r0 := kr6.cell 0 _ rfl
      have r1 := kr6.cell 1 _ rfl
      have r2 := kr6.cell 2 _ rfl
      have z0 := kr6.froz 0 (by simp)
      have z1 := kr6.froz 1 (by simp)
      have z2 := kr6.froz 2 (by simp)
      have rl6 := kr6.lt
      have HKR6 := Lib.hid kr6
      have HNX := Lib.hid (And.intro hnx hb6)
      clear kr6 hnx hb6 HW5
      go_wp2
      have bz := HKR6.out.put3 (.bool false) (.int .i64 0) (.int .i64 0)
      have t0 := bz.cell 0 _ rfl
      have t1 := bz.cell 1 _ rfl
      have t2 := bz.cell 2 _ rfl
      clear bz r0 r1 r2 z0 z1 z2
      have hx6 := HX5.out.1.trans (HNX.out.2.mono hsz5)
      have hof := (HMr.out.2.2.trans ((Off.of_below (S := [b]) hx6).mono (by simp))).put3 (r := w.heap.size) (Nat.le_refl _) (.bool false) (.int .i64 0) (.int .i64 0)
      have hm5 := HMr.out.2.1.off (S := [w.heap.size]) ((Off.of_below (S := [w.heap.size]) hx6).put3' (r := w.heap.size) (by simp) (.bool false) (.int .i64 0) (.int .i64 0)) (fun hh => HWM.out (by simp at hh ⊢; omega)) (fun hh => HWM.out (by simp at hh ⊢; omega))
      have hnf := (HNX.out.1.off (((Off.refl (w.heap.size :: s :: b :: bw :: X) w6).put3' (r := w.heap.size) (by simp) (.bool false) (.int .i64 0) (.int .i64 0)))).weak (S := (s :: b :: bw :: X)) (fun y hy => List.mem_cons_of_mem _ hy)
      refine bodyPost_ret (v := .tuple #[.agg #[.bool false, .int .i64 0, .int .i64 0], f]) (by simp [results, Try.results86, go_sem, t0, t1, t2]) rfl ?_
      refine ⟨f, ring2, ?_, HMr.out.1.stepM hof HNE.out.2.2 (hof.mono (by simp)) hm5 (by have := HMr.out.1.vk; omega) HMr.out.1.v1, ?_, hof⟩
      · rw [HOK.out.2, rdRes, HCH.out]; rfl
      · rw [rdNx, HOK.out.2, HCH.out, if_pos rfl, HOE.out]; exact hnf
end Go.Proofs.Ytpjgpiiibgogeaa
