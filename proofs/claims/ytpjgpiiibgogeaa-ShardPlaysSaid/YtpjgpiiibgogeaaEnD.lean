/- Contract: done, the law's: a call done at once. -/
import Derived.Test.YtpjgpiiibgogeaaEnC
import Derived.Test.YtpjgpiiibgogeaaShS
import Derived.Test.YtpjgpiiibgogeaaSums
namespace Go.Proofs.Ytpjgpiiibgogeaa
open Go.RowKit
set_option maxRecDepth 100000
set_option linter.unusedVariables false
theorem radd_int (w : World) (a x : Int) (h0 : 0 ≤ a ∧ a ≤ 4611686018427387903) (h1 : 0 ≤ x ∧ x ≤ 4611686018427387903) :
    Calls Try.prog 72 #[.int .i64 a, .int .i64 x] w fun e w' => e = .returned (.int .i64 (clampV (a + x))) ∧ Below w.heap.size w w' := by
  have h := radd_ok w a.toNat x.toNat (by omega) (by omega)
  rw [show ((a.toNat : Nat) : Int) = a by omega, show ((x.toNat : Nat) : Int) = x by omega] at h
  exact h
theorem ent_tick {l : List Ent} (h : WfL l) {p : Nat} (hp : p < l.length) : 0 ≤ (l.getD p noE).2 ∧ (l.getD p noE).2 ≤ 4611686018427387903 := by
  rw [List.getD_eq_getElem?_getD, List.getElem?_eq_getElem hp]
  exact h.tick _ (List.getElem_mem hp)
def DnEnd (w : World) (S : List Nat) (l : List Ent) (E N : Int) (e : Ending) (w' : World) : Prop :=
  ∃ A2 n2 c2 fs, e = .returned (.tuple #[.slice A2 n2 c2, .agg #[.bool true, .int .i64 E, .int .i64 N]]) ∧ VerA w' w'.heap.size S A2 n2 c2 fs ∧ fs.map KV.ent = l ∧ Below w.heap.size w w'
theorem OwnC.apt {w : World} {B k n c : Nat} {T : TypeId} {A : Option Addr} {cs : List Value} {S : List Nat} (h : OwnC w B T k A n c cs) (hS : ∀ x ∈ S, x < B) : Apt S A n := by
  intro hn a ha hm
  rcases h.2 with ⟨h1, h2⟩ | ⟨g, cap, cur, h1, h2, h3⟩
  · injection h1 with h1; rw [h1] at ha; cases ha
  · injection h1 with h1; rw [h1] at ha; cases ha
    have := hS _ hm
    simp only at this
    omega
theorem dn_row {w w' : World} {B B' B2 n m d n2 c2 c : Nat} {S : List Nat} {A A' A2 : Option Addr} {es fs : List KV} {ks : List Nat} {x : Int} (h : VerA w B S A n c es) (h' : Arg w B' A' m d ks) (hm : m ≤ 256) (hB : B ≤ w.heap.size) (hB' : B' ≤ w.heap.size)
    (hAp : Apt S A' m) (hS : ∀ x ∈ S, x < w.heap.size) (hB2 : w.heap.size ≤ B2) (ho : OwnC w' B2 E14 2 A2 n2 c2 (KVs fs)) (hb : Below w.heap.size w w') (hf : ∀ e ∈ fs, e ∈ es ∨ e = ⟨A', m, d, ks, x⟩) : VerA w' w'.heap.size S A2 n2 c2 fs :=
  ⟨ho.arg, ho.apt (fun x hx => Nat.lt_of_lt_of_le (hS x hx) hB2), fun e he => by
    rcases hf e he with h1 | rfl
    · exact ⟨(((h.key e h1).1.below (hb.mono hB)).more hB).more hb.size, (h.key e h1).2⟩
    · exact ⟨((h'.below (hb.mono hB')).more hB').more hb.size, hAp, hm⟩⟩
set_option maxHeartbeats 12800000 in
theorem done_none1 (w : World) (B B' : Nat) (S : List Nat) (A A' : Option Addr) (n c m d : Nat) (es : List KV) (ks : List Nat) (who x : Int) (h : VerA w B S A n c es) (h' : Arg w B' A' m d ks) (hm : m ≤ 256) (ho : WfL (es.map KV.ent)) (hn : n ≤ 4096) (hB : B ≤ w.heap.size) (hB' : B' ≤ w.heap.size) (hAp : Apt S A' m) (hS : ∀ x ∈ S, x < w.heap.size) (hh : hasK (es.map KV.ent) ks = false) :
    Calls Try.prog 50 #[.slice A n c, .agg #[.int .i64 who, .int .u8 1, .slice A' m d, .int .i64 x]] w (DnEnd w S (es.map KV.ent) (7) (0)) := by
  have hl := h.len
  have hple := plK_le (es.map KV.ent) ks
  rw [List.length_map, hl] at hple
  have hb0 : Below w.heap.size w (((w.alloc (.cells #[.int .i64 who, .int .u8 1, .slice A' m d, .int .i64 x] 72)).alloc (.cells #[.bool false, .int .i64 0, .int .i64 0] 79)).alloc (.cells #[.bool true, .int .i64 0, .int .i64 0] 79)) := (((Below.refl _ w).alloc (Nat.le_refl _) _).alloc (by simp) _).alloc (by simp; omega) _
  have kp := ((BlkL.new w [.int .i64 who, .int .u8 1, .slice A' m d, .int .i64 x] 72).alloc (.cells #[.bool false, .int .i64 0, .int .i64 0] 79)).alloc (.cells #[.bool true, .int .i64 0, .int .i64 0] 79)
  have k5 := (BlkL.new (w.alloc (.cells #[.int .i64 who, .int .u8 1, .slice A' m d, .int .i64 x] 72)) [.bool false, .int .i64 0, .int .i64 0] 79).alloc (.cells #[.bool true, .int .i64 0, .int .i64 0] 79)
  have k6 := BlkL.new ((w.alloc (.cells #[.int .i64 who, .int .u8 1, .slice A' m d, .int .i64 x] 72)).alloc (.cells #[.bool false, .int .i64 0, .int .i64 0] 79)) [.bool true, .int .i64 0, .int .i64 0] 79
  simp only [World.size_alloc] at k5 k6
  have hf := find14_any (((w.alloc (.cells #[.int .i64 who, .int .u8 1, .slice A' m d, .int .i64 x] 72)).alloc (.cells #[.bool false, .int .i64 0, .int .i64 0] 79)).alloc (.cells #[.bool true, .int .i64 0, .int .i64 0] 79)) B B' S A A' n c m d es ks (h.below (hb0.mono hB)) (h'.below (hb0.mono hB')) ho.srt (by omega) (Nat.le_trans hB hb0.size) (Nat.le_trans hB' hb0.size)
  rw [findV, hh] at hf
  simp only [Bool.false_eq_true, if_false] at hf
  have HF := Lib.hid hf
  have HB0 := Lib.hid hb0
  have KK := Lib.hid (And.intro kp (And.intro k5 k6))
  have HV := Lib.hid h
  have HA := Lib.hid h'
  have HO := Lib.hid ho
  have HAP := Lib.hid hAp
  have HSS := Lib.hid hS
  clear hAp hS
  clear hf hb0 kp k5 k6 h h' ho
  generalize hpp : plK (es.map KV.ent) ks = p at *
  have HPP := Lib.hid hpp
  clear hpp
  go_enter Try.func50, Try.ntmps50
  go_wp2_with fail
  with_reducible refine HF.out.mono ?_
  rintro e w1 ⟨rfl, hb1⟩
  have kp1 := KK.out.1.below hb1
  have k51 := KK.out.2.1.below hb1
  have k61 := KK.out.2.2.below hb1
  have hb2 := HB0.out.trans (hb1.mono HB0.out.size)
  have hsz := hb2.size
  have HB1 := Lib.hid hb2
  have p1 := kp1.cell 1 _ rfl
  have p2 := kp1.cell 2 _ rfl
  have p3 := kp1.cell 3 _ rfl
  have pl := kp1.lt
  have c0 := k51.cell 0 _ rfl
  have c1 := k51.cell 1 _ rfl
  have c2 := k51.cell 2 _ rfl
  have g0 := k51.froz 0 (by simp)
  have g1 := k51.froz 1 (by simp)
  have g2 := k51.froz 2 (by simp)
  have cl := k51.lt
  have r0 := k61.cell 0 _ rfl
  have r1 := k61.cell 1 _ rfl
  have r2 := k61.cell 2 _ rfl
  have f0 := k61.froz 0 (by simp)
  have f1 := k61.froz 1 (by simp)
  have f2 := k61.froz 2 (by simp)
  have rl := k61.lt
  have K1 := Lib.hid (And.intro kp1 (And.intro k51 k61))
  clear hb1 hb2 kp1 k51 k61 HB0 KK HF
  go_wp2_with fail
  have kk := And.intro (K1.out.1.other (w.heap.size + 1 + 1) 1 (.int .i64 7) (by omega)) (And.intro (K1.out.2.1.other (w.heap.size + 1 + 1) 1 (.int .i64 7) (by omega)) (K1.out.2.2.set 1 (.int .i64 7) (by simp)))
  simp only [List.set] at kk
  have hbb : Below w.heap.size w (w1.setCell ⟨(w.heap.size + 1 + 1), 1, none⟩ (.int .i64 7)) := HB1.out.setCell (by simp; omega) _
  clear p1 p2 p3 pl c0 c1 c2 g0 g1 g2 cl r0 r1 r2 f0 f1 f2 rl K1 HB1
  generalize w1.setCell ⟨(w.heap.size + 1 + 1), 1, none⟩ (.int .i64 7) = w2 at *
  have p1 := kk.1.cell 1 _ rfl
  have p2 := kk.1.cell 2 _ rfl
  have p3 := kk.1.cell 3 _ rfl
  have pl := kk.1.lt
  have c0 := kk.2.1.cell 0 _ rfl
  have c1 := kk.2.1.cell 1 _ rfl
  have c2 := kk.2.1.cell 2 _ rfl
  have g0 := kk.2.1.froz 0 (by simp)
  have g1 := kk.2.1.froz 1 (by simp)
  have g2 := kk.2.1.froz 2 (by simp)
  have cl := kk.2.1.lt
  have r0 := kk.2.2.cell 0 _ rfl
  have r1 := kk.2.2.cell 1 _ rfl
  have r2 := kk.2.2.cell 2 _ rfl
  have f0 := kk.2.2.froz 0 (by simp)
  have f1 := kk.2.2.froz 1 (by simp)
  have f2 := kk.2.2.froz 2 (by simp)
  have rl := kk.2.2.lt
  have K2 := Lib.hid kk
  have HB2 := Lib.hid hbb
  have hsz2 := hbb.size
  clear kk hbb
  go_region_held3 (fun W => W.cell? ⟨(w.heap.size + 1 + 1), 0, none⟩ = some (.bool true) ∧ W.cell? ⟨(w.heap.size + 1 + 1), 1, none⟩ = some (.int .i64 (7)) ∧ W.cell? ⟨(w.heap.size + 1 + 1), 2, none⟩ = some (.int .i64 (0))) (first | go_keep | (refine ⟨?_, ?_, ?_⟩ <;> (rw [World.cell?_setCell_other _ _ _ _ (by simp), World.cell?_setCell_other _ _ _ _ (by simp), World.cell?_setCell_other _ _ _ _ (by simp)]; assumption))) (fail)
  all_goals
    go_wp2
    have bz := ((K2.out.2.1).put3 (.bool true) (.int .i64 (7)) (.int .i64 (0))).drew
    have z0 := bz.cell 0 _ rfl
    have z1 := bz.cell 1 _ rfl
    have z2 := bz.cell 2 _ rfl
    have hbz := (below_put3 HB2.out (b := w.heap.size + 1) (by omega) (.bool true) (.int .i64 (7)) (.int .i64 (0))).drew
    have hv := (HV.out.below (hbz.mono hB)).more (Nat.le_trans hB hbz.size)
    clear bz
    exact bodyPost_ret (v := .tuple #[.slice A n c, .agg #[.bool true, .int .i64 (7), .int .i64 (0)]]) (by simp [results, Try.results50, go_sem, z0, z1, z2]) rfl ⟨A, n, c, es, rfl, hv, rfl, hbz⟩
set_option maxHeartbeats 12800000 in
theorem done_none4 (w : World) (B B' : Nat) (S : List Nat) (A A' : Option Addr) (n c m d : Nat) (es : List KV) (ks : List Nat) (who x : Int) (h : VerA w B S A n c es) (h' : Arg w B' A' m d ks) (hm : m ≤ 256) (ho : WfL (es.map KV.ent)) (hn : n ≤ 4096) (hB : B ≤ w.heap.size) (hB' : B' ≤ w.heap.size) (hAp : Apt S A' m) (hS : ∀ x ∈ S, x < w.heap.size) (hh : hasK (es.map KV.ent) ks = false) :
    Calls Try.prog 50 #[.slice A n c, .agg #[.int .i64 who, .int .u8 4, .slice A' m d, .int .i64 x]] w (DnEnd w S (es.map KV.ent) (7) (0)) := by
  have hl := h.len
  have hple := plK_le (es.map KV.ent) ks
  rw [List.length_map, hl] at hple
  have hb0 : Below w.heap.size w (((w.alloc (.cells #[.int .i64 who, .int .u8 4, .slice A' m d, .int .i64 x] 72)).alloc (.cells #[.bool false, .int .i64 0, .int .i64 0] 79)).alloc (.cells #[.bool true, .int .i64 0, .int .i64 0] 79)) := (((Below.refl _ w).alloc (Nat.le_refl _) _).alloc (by simp) _).alloc (by simp; omega) _
  have kp := ((BlkL.new w [.int .i64 who, .int .u8 4, .slice A' m d, .int .i64 x] 72).alloc (.cells #[.bool false, .int .i64 0, .int .i64 0] 79)).alloc (.cells #[.bool true, .int .i64 0, .int .i64 0] 79)
  have k5 := (BlkL.new (w.alloc (.cells #[.int .i64 who, .int .u8 4, .slice A' m d, .int .i64 x] 72)) [.bool false, .int .i64 0, .int .i64 0] 79).alloc (.cells #[.bool true, .int .i64 0, .int .i64 0] 79)
  have k6 := BlkL.new ((w.alloc (.cells #[.int .i64 who, .int .u8 4, .slice A' m d, .int .i64 x] 72)).alloc (.cells #[.bool false, .int .i64 0, .int .i64 0] 79)) [.bool true, .int .i64 0, .int .i64 0] 79
  simp only [World.size_alloc] at k5 k6
  have hf := find14_any (((w.alloc (.cells #[.int .i64 who, .int .u8 4, .slice A' m d, .int .i64 x] 72)).alloc (.cells #[.bool false, .int .i64 0, .int .i64 0] 79)).alloc (.cells #[.bool true, .int .i64 0, .int .i64 0] 79)) B B' S A A' n c m d es ks (h.below (hb0.mono hB)) (h'.below (hb0.mono hB')) ho.srt (by omega) (Nat.le_trans hB hb0.size) (Nat.le_trans hB' hb0.size)
  rw [findV, hh] at hf
  simp only [Bool.false_eq_true, if_false] at hf
  have HF := Lib.hid hf
  have HB0 := Lib.hid hb0
  have KK := Lib.hid (And.intro kp (And.intro k5 k6))
  have HV := Lib.hid h
  have HA := Lib.hid h'
  have HO := Lib.hid ho
  have HAP := Lib.hid hAp
  have HSS := Lib.hid hS
  clear hAp hS
  clear hf hb0 kp k5 k6 h h' ho
  generalize hpp : plK (es.map KV.ent) ks = p at *
  have HPP := Lib.hid hpp
  clear hpp
  go_enter Try.func50, Try.ntmps50
  go_wp2_with fail
  with_reducible refine HF.out.mono ?_
  rintro e w1 ⟨rfl, hb1⟩
  have kp1 := KK.out.1.below hb1
  have k51 := KK.out.2.1.below hb1
  have k61 := KK.out.2.2.below hb1
  have hb2 := HB0.out.trans (hb1.mono HB0.out.size)
  have hsz := hb2.size
  have HB1 := Lib.hid hb2
  have p1 := kp1.cell 1 _ rfl
  have p2 := kp1.cell 2 _ rfl
  have p3 := kp1.cell 3 _ rfl
  have pl := kp1.lt
  have c0 := k51.cell 0 _ rfl
  have c1 := k51.cell 1 _ rfl
  have c2 := k51.cell 2 _ rfl
  have g0 := k51.froz 0 (by simp)
  have g1 := k51.froz 1 (by simp)
  have g2 := k51.froz 2 (by simp)
  have cl := k51.lt
  have r0 := k61.cell 0 _ rfl
  have r1 := k61.cell 1 _ rfl
  have r2 := k61.cell 2 _ rfl
  have f0 := k61.froz 0 (by simp)
  have f1 := k61.froz 1 (by simp)
  have f2 := k61.froz 2 (by simp)
  have rl := k61.lt
  have K1 := Lib.hid (And.intro kp1 (And.intro k51 k61))
  clear hb1 hb2 kp1 k51 k61 HB0 KK HF
  go_wp2_with fail
  have kk := And.intro (K1.out.1.other (w.heap.size + 1 + 1) 1 (.int .i64 7) (by omega)) (And.intro (K1.out.2.1.other (w.heap.size + 1 + 1) 1 (.int .i64 7) (by omega)) (K1.out.2.2.set 1 (.int .i64 7) (by simp)))
  simp only [List.set] at kk
  have hbb : Below w.heap.size w (w1.setCell ⟨(w.heap.size + 1 + 1), 1, none⟩ (.int .i64 7)) := HB1.out.setCell (by simp; omega) _
  clear p1 p2 p3 pl c0 c1 c2 g0 g1 g2 cl r0 r1 r2 f0 f1 f2 rl K1 HB1
  generalize w1.setCell ⟨(w.heap.size + 1 + 1), 1, none⟩ (.int .i64 7) = w2 at *
  have p1 := kk.1.cell 1 _ rfl
  have p2 := kk.1.cell 2 _ rfl
  have p3 := kk.1.cell 3 _ rfl
  have pl := kk.1.lt
  have c0 := kk.2.1.cell 0 _ rfl
  have c1 := kk.2.1.cell 1 _ rfl
  have c2 := kk.2.1.cell 2 _ rfl
  have g0 := kk.2.1.froz 0 (by simp)
  have g1 := kk.2.1.froz 1 (by simp)
  have g2 := kk.2.1.froz 2 (by simp)
  have cl := kk.2.1.lt
  have r0 := kk.2.2.cell 0 _ rfl
  have r1 := kk.2.2.cell 1 _ rfl
  have r2 := kk.2.2.cell 2 _ rfl
  have f0 := kk.2.2.froz 0 (by simp)
  have f1 := kk.2.2.froz 1 (by simp)
  have f2 := kk.2.2.froz 2 (by simp)
  have rl := kk.2.2.lt
  have K2 := Lib.hid kk
  have HB2 := Lib.hid hbb
  have hsz2 := hbb.size
  clear kk hbb
  go_region_held3 (fun W => W.cell? ⟨(w.heap.size + 1 + 1), 0, none⟩ = some (.bool true) ∧ W.cell? ⟨(w.heap.size + 1 + 1), 1, none⟩ = some (.int .i64 (7)) ∧ W.cell? ⟨(w.heap.size + 1 + 1), 2, none⟩ = some (.int .i64 (0))) (first | go_keep | (refine ⟨?_, ?_, ?_⟩ <;> (rw [World.cell?_setCell_other _ _ _ _ (by simp), World.cell?_setCell_other _ _ _ _ (by simp), World.cell?_setCell_other _ _ _ _ (by simp)]; assumption))) (fail)
  all_goals
    go_wp2
    have bz := ((K2.out.2.1).put3 (.bool true) (.int .i64 (7)) (.int .i64 (0))).drew
    have z0 := bz.cell 0 _ rfl
    have z1 := bz.cell 1 _ rfl
    have z2 := bz.cell 2 _ rfl
    have hbz := (below_put3 HB2.out (b := w.heap.size + 1) (by omega) (.bool true) (.int .i64 (7)) (.int .i64 (0))).drew
    have hv := (HV.out.below (hbz.mono hB)).more (Nat.le_trans hB hbz.size)
    clear bz
    exact bodyPost_ret (v := .tuple #[.slice A n c, .agg #[.bool true, .int .i64 (7), .int .i64 (0)]]) (by simp [results, Try.results50, go_sem, z0, z1, z2]) rfl ⟨A, n, c, es, rfl, hv, rfl, hbz⟩
set_option maxHeartbeats 12800000 in
theorem done_get (w : World) (B B' : Nat) (S : List Nat) (A A' : Option Addr) (n c m d : Nat) (es : List KV) (ks : List Nat) (who x : Int) (h : VerA w B S A n c es) (h' : Arg w B' A' m d ks) (hm : m ≤ 256) (ho : WfL (es.map KV.ent)) (hn : n ≤ 4096) (hB : B ≤ w.heap.size) (hB' : B' ≤ w.heap.size) (hAp : Apt S A' m) (hS : ∀ x ∈ S, x < w.heap.size) (hh : hasK (es.map KV.ent) ks = true) :
    Calls Try.prog 50 #[.slice A n c, .agg #[.int .i64 who, .int .u8 1, .slice A' m d, .int .i64 x]] w (DnEnd w S (es.map KV.ent) (0) (((es.map KV.ent).getD (plK (es.map KV.ent) ks) noE).2)) := by
  have hl := h.len
  have hple := plK_le (es.map KV.ent) ks
  rw [List.length_map, hl] at hple
  have hb0 : Below w.heap.size w (((w.alloc (.cells #[.int .i64 who, .int .u8 1, .slice A' m d, .int .i64 x] 72)).alloc (.cells #[.bool false, .int .i64 0, .int .i64 0] 79)).alloc (.cells #[.bool true, .int .i64 0, .int .i64 0] 79)) := (((Below.refl _ w).alloc (Nat.le_refl _) _).alloc (by simp) _).alloc (by simp; omega) _
  have kp := ((BlkL.new w [.int .i64 who, .int .u8 1, .slice A' m d, .int .i64 x] 72).alloc (.cells #[.bool false, .int .i64 0, .int .i64 0] 79)).alloc (.cells #[.bool true, .int .i64 0, .int .i64 0] 79)
  have k5 := (BlkL.new (w.alloc (.cells #[.int .i64 who, .int .u8 1, .slice A' m d, .int .i64 x] 72)) [.bool false, .int .i64 0, .int .i64 0] 79).alloc (.cells #[.bool true, .int .i64 0, .int .i64 0] 79)
  have k6 := BlkL.new ((w.alloc (.cells #[.int .i64 who, .int .u8 1, .slice A' m d, .int .i64 x] 72)).alloc (.cells #[.bool false, .int .i64 0, .int .i64 0] 79)) [.bool true, .int .i64 0, .int .i64 0] 79
  simp only [World.size_alloc] at k5 k6
  have hf := find14_any (((w.alloc (.cells #[.int .i64 who, .int .u8 1, .slice A' m d, .int .i64 x] 72)).alloc (.cells #[.bool false, .int .i64 0, .int .i64 0] 79)).alloc (.cells #[.bool true, .int .i64 0, .int .i64 0] 79)) B B' S A A' n c m d es ks (h.below (hb0.mono hB)) (h'.below (hb0.mono hB')) ho.srt (by omega) (Nat.le_trans hB hb0.size) (Nat.le_trans hB' hb0.size)
  rw [findV, hh] at hf
  simp only [if_true] at hf
  have HF := Lib.hid hf
  have HB0 := Lib.hid hb0
  have KK := Lib.hid (And.intro kp (And.intro k5 k6))
  have HV := Lib.hid h
  have HA := Lib.hid h'
  have HO := Lib.hid ho
  have HAP := Lib.hid hAp
  have HSS := Lib.hid hS
  clear hAp hS
  obtain ⟨hp0, _⟩ := has_key hh
  rw [List.length_map, hl] at hp0
  obtain ⟨g, off, eA, hgB, hc0, hc1⟩ := h.at_ hp0
  have hent := ent_at es _ (by rw [hl]; exact hp0)
  have hval : ((es.map KV.ent).getD (plK (es.map KV.ent) ks) noE).2 = (es.getD (plK (es.map KV.ent) ks) noKV).v := by rw [hent]
  rw [hval]
  have HIN := Lib.hid (kv_mem (es := es) (i := plK (es.map KV.ent) ks) (by rw [hl]; exact hp0))
  subst eA
  generalize (es.getD (plK (es.map KV.ent) ks) noKV).v = xv at *
  clear hent hval hc0
  clear hf hb0 kp k5 k6 h h' ho
  generalize hpp : plK (es.map KV.ent) ks = p at *
  have HPP := Lib.hid hpp
  clear hpp
  go_enter Try.func50, Try.ntmps50
  go_wp2_with fail
  with_reducible refine HF.out.mono ?_
  rintro e w1 ⟨rfl, hb1⟩
  have kp1 := KK.out.1.below hb1
  have k51 := KK.out.2.1.below hb1
  have k61 := KK.out.2.2.below hb1
  have hb2 := HB0.out.trans (hb1.mono HB0.out.size)
  have hsz := hb2.size
  have HB1 := Lib.hid hb2
  have p1 := kp1.cell 1 _ rfl
  have p2 := kp1.cell 2 _ rfl
  have p3 := kp1.cell 3 _ rfl
  have pl := kp1.lt
  have c0 := k51.cell 0 _ rfl
  have c1 := k51.cell 1 _ rfl
  have c2 := k51.cell 2 _ rfl
  have g0 := k51.froz 0 (by simp)
  have g1 := k51.froz 1 (by simp)
  have g2 := k51.froz 2 (by simp)
  have cl := k51.lt
  have r0 := k61.cell 0 _ rfl
  have r1 := k61.cell 1 _ rfl
  have r2 := k61.cell 2 _ rfl
  have f0 := k61.froz 0 (by simp)
  have f1 := k61.froz 1 (by simp)
  have f2 := k61.froz 2 (by simp)
  have rl := k61.lt
  have K1 := Lib.hid (And.intro kp1 (And.intro k51 k61))
  clear hb1 hb2 kp1 k51 k61 HB0 KK HF
  have q1 := (HB1.out.cell (p := ⟨g, off + p * 2 + 1, none⟩) (show g < w.heap.size by omega)).trans hc1
  have j0 : (0 : Int) ≤ (p : Int) := by omega
  have j1 : ¬ (p : Int) < 0 := by omega
  have j2 : (p : Int) < (n : Int) := by omega
  have lg : g < w1.heap.size := by omega
  go_wp2_with fail
  have kk := And.intro (K1.out.1.other (w.heap.size + 1 + 1) 2 (.int .i64 xv) (by omega)) (And.intro (K1.out.2.1.other (w.heap.size + 1 + 1) 2 (.int .i64 xv) (by omega)) (K1.out.2.2.set 2 (.int .i64 xv) (by simp)))
  simp only [List.set] at kk
  have hbb : Below w.heap.size w (w1.setCell ⟨(w.heap.size + 1 + 1), 2, none⟩ (.int .i64 xv)) := HB1.out.setCell (by simp; omega) _
  clear p1 p2 p3 pl c0 c1 c2 g0 g1 g2 cl r0 r1 r2 f0 f1 f2 rl K1 HB1
  generalize w1.setCell ⟨(w.heap.size + 1 + 1), 2, none⟩ (.int .i64 xv) = w2 at *
  have p1 := kk.1.cell 1 _ rfl
  have p2 := kk.1.cell 2 _ rfl
  have p3 := kk.1.cell 3 _ rfl
  have pl := kk.1.lt
  have c0 := kk.2.1.cell 0 _ rfl
  have c1 := kk.2.1.cell 1 _ rfl
  have c2 := kk.2.1.cell 2 _ rfl
  have g0 := kk.2.1.froz 0 (by simp)
  have g1 := kk.2.1.froz 1 (by simp)
  have g2 := kk.2.1.froz 2 (by simp)
  have cl := kk.2.1.lt
  have r0 := kk.2.2.cell 0 _ rfl
  have r1 := kk.2.2.cell 1 _ rfl
  have r2 := kk.2.2.cell 2 _ rfl
  have f0 := kk.2.2.froz 0 (by simp)
  have f1 := kk.2.2.froz 1 (by simp)
  have f2 := kk.2.2.froz 2 (by simp)
  have rl := kk.2.2.lt
  have K2 := Lib.hid kk
  have HB2 := Lib.hid hbb
  have hsz2 := hbb.size
  clear kk hbb
  go_region_held3 (fun W => W.cell? ⟨(w.heap.size + 1 + 1), 0, none⟩ = some (.bool true) ∧ W.cell? ⟨(w.heap.size + 1 + 1), 1, none⟩ = some (.int .i64 (0)) ∧ W.cell? ⟨(w.heap.size + 1 + 1), 2, none⟩ = some (.int .i64 (xv))) (first | go_keep | (refine ⟨?_, ?_, ?_⟩ <;> (rw [World.cell?_setCell_other _ _ _ _ (by simp), World.cell?_setCell_other _ _ _ _ (by simp), World.cell?_setCell_other _ _ _ _ (by simp)]; assumption))) (fail)
  all_goals
    go_wp2
    have bz := ((K2.out.2.1).put3 (.bool true) (.int .i64 (0)) (.int .i64 (xv))).drew
    have z0 := bz.cell 0 _ rfl
    have z1 := bz.cell 1 _ rfl
    have z2 := bz.cell 2 _ rfl
    have hbz := (below_put3 HB2.out (b := w.heap.size + 1) (by omega) (.bool true) (.int .i64 (0)) (.int .i64 (xv))).drew
    have hv := (HV.out.below (hbz.mono hB)).more (Nat.le_trans hB hbz.size)
    clear bz
    exact bodyPost_ret (v := .tuple #[.slice (some ⟨g, off, none⟩) n c, .agg #[.bool true, .int .i64 (0), .int .i64 (xv)]]) (by simp [results, Try.results50, go_sem, z0, z1, z2]) rfl ⟨_, n, c, es, rfl, hv, rfl, hbz⟩
set_option maxHeartbeats 12800000 in
theorem done_drop (w : World) (B B' : Nat) (S : List Nat) (A A' : Option Addr) (n c m d : Nat) (es : List KV) (ks : List Nat) (who x : Int) (h : VerA w B S A n c es) (h' : Arg w B' A' m d ks) (hm : m ≤ 256) (ho : WfL (es.map KV.ent)) (hn : n ≤ 4096) (hB : B ≤ w.heap.size) (hB' : B' ≤ w.heap.size) (hAp : Apt S A' m) (hS : ∀ x ∈ S, x < w.heap.size) (hh : hasK (es.map KV.ent) ks = true) :
    Calls Try.prog 50 #[.slice A n c, .agg #[.int .i64 who, .int .u8 4, .slice A' m d, .int .i64 x]] w (DnEnd w S (cutK (es.map KV.ent) ks) (0) (((es.map KV.ent).getD (plK (es.map KV.ent) ks) noE).2)) := by
  have hl := h.len
  have hple := plK_le (es.map KV.ent) ks
  rw [List.length_map, hl] at hple
  have hb0 : Below w.heap.size w (((w.alloc (.cells #[.int .i64 who, .int .u8 4, .slice A' m d, .int .i64 x] 72)).alloc (.cells #[.bool false, .int .i64 0, .int .i64 0] 79)).alloc (.cells #[.bool true, .int .i64 0, .int .i64 0] 79)) := (((Below.refl _ w).alloc (Nat.le_refl _) _).alloc (by simp) _).alloc (by simp; omega) _
  have kp := ((BlkL.new w [.int .i64 who, .int .u8 4, .slice A' m d, .int .i64 x] 72).alloc (.cells #[.bool false, .int .i64 0, .int .i64 0] 79)).alloc (.cells #[.bool true, .int .i64 0, .int .i64 0] 79)
  have k5 := (BlkL.new (w.alloc (.cells #[.int .i64 who, .int .u8 4, .slice A' m d, .int .i64 x] 72)) [.bool false, .int .i64 0, .int .i64 0] 79).alloc (.cells #[.bool true, .int .i64 0, .int .i64 0] 79)
  have k6 := BlkL.new ((w.alloc (.cells #[.int .i64 who, .int .u8 4, .slice A' m d, .int .i64 x] 72)).alloc (.cells #[.bool false, .int .i64 0, .int .i64 0] 79)) [.bool true, .int .i64 0, .int .i64 0] 79
  simp only [World.size_alloc] at k5 k6
  have hf := find14_any (((w.alloc (.cells #[.int .i64 who, .int .u8 4, .slice A' m d, .int .i64 x] 72)).alloc (.cells #[.bool false, .int .i64 0, .int .i64 0] 79)).alloc (.cells #[.bool true, .int .i64 0, .int .i64 0] 79)) B B' S A A' n c m d es ks (h.below (hb0.mono hB)) (h'.below (hb0.mono hB')) ho.srt (by omega) (Nat.le_trans hB hb0.size) (Nat.le_trans hB' hb0.size)
  rw [findV, hh] at hf
  simp only [if_true] at hf
  have HF := Lib.hid hf
  have HB0 := Lib.hid hb0
  have KK := Lib.hid (And.intro kp (And.intro k5 k6))
  have HV := Lib.hid h
  have HA := Lib.hid h'
  have HO := Lib.hid ho
  have HAP := Lib.hid hAp
  have HSS := Lib.hid hS
  clear hAp hS
  obtain ⟨hp0, _⟩ := has_key hh
  rw [List.length_map, hl] at hp0
  obtain ⟨g, off, eA, hgB, hc0, hc1⟩ := h.at_ hp0
  have hent := ent_at es _ (by rw [hl]; exact hp0)
  have hval : ((es.map KV.ent).getD (plK (es.map KV.ent) ks) noE).2 = (es.getD (plK (es.map KV.ent) ks) noKV).v := by rw [hent]
  rw [hval]
  have HIN := Lib.hid (kv_mem (es := es) (i := plK (es.map KV.ent) ks) (by rw [hl]; exact hp0))
  subst eA
  generalize (es.getD (plK (es.map KV.ent) ks) noKV).v = xv at *
  clear hent hval hc0
  clear hf hb0 kp k5 k6 h h' ho
  generalize hpp : plK (es.map KV.ent) ks = p at *
  have HPP := Lib.hid hpp
  clear hpp
  go_enter Try.func50, Try.ntmps50
  go_wp2_with fail
  with_reducible refine HF.out.mono ?_
  rintro e w1 ⟨rfl, hb1⟩
  have kp1 := KK.out.1.below hb1
  have k51 := KK.out.2.1.below hb1
  have k61 := KK.out.2.2.below hb1
  have hb2 := HB0.out.trans (hb1.mono HB0.out.size)
  have hsz := hb2.size
  have HB1 := Lib.hid hb2
  have p1 := kp1.cell 1 _ rfl
  have p2 := kp1.cell 2 _ rfl
  have p3 := kp1.cell 3 _ rfl
  have pl := kp1.lt
  have c0 := k51.cell 0 _ rfl
  have c1 := k51.cell 1 _ rfl
  have c2 := k51.cell 2 _ rfl
  have g0 := k51.froz 0 (by simp)
  have g1 := k51.froz 1 (by simp)
  have g2 := k51.froz 2 (by simp)
  have cl := k51.lt
  have r0 := k61.cell 0 _ rfl
  have r1 := k61.cell 1 _ rfl
  have r2 := k61.cell 2 _ rfl
  have f0 := k61.froz 0 (by simp)
  have f1 := k61.froz 1 (by simp)
  have f2 := k61.froz 2 (by simp)
  have rl := k61.lt
  have K1 := Lib.hid (And.intro kp1 (And.intro k51 k61))
  clear hb1 hb2 kp1 k51 k61 HB0 KK HF
  have q1 := (HB1.out.cell (p := ⟨g, off + p * 2 + 1, none⟩) (show g < w.heap.size by omega)).trans hc1
  have j0 : (0 : Int) ≤ (p : Int) := by omega
  have j1 : ¬ (p : Int) < 0 := by omega
  have j2 : (p : Int) < (n : Int) := by omega
  have lg : g < w1.heap.size := by omega
  go_wp2_with fail
  have kk := And.intro (K1.out.1.other (w.heap.size + 1 + 1) 2 (.int .i64 xv) (by omega)) (And.intro (K1.out.2.1.other (w.heap.size + 1 + 1) 2 (.int .i64 xv) (by omega)) (K1.out.2.2.set 2 (.int .i64 xv) (by simp)))
  simp only [List.set] at kk
  have hbb : Below w.heap.size w (w1.setCell ⟨(w.heap.size + 1 + 1), 2, none⟩ (.int .i64 xv)) := HB1.out.setCell (by simp; omega) _
  clear p1 p2 p3 pl c0 c1 c2 g0 g1 g2 cl r0 r1 r2 f0 f1 f2 rl K1 HB1
  generalize w1.setCell ⟨(w.heap.size + 1 + 1), 2, none⟩ (.int .i64 xv) = w2 at *
  have p1 := kk.1.cell 1 _ rfl
  have p2 := kk.1.cell 2 _ rfl
  have p3 := kk.1.cell 3 _ rfl
  have pl := kk.1.lt
  have c0 := kk.2.1.cell 0 _ rfl
  have c1 := kk.2.1.cell 1 _ rfl
  have c2 := kk.2.1.cell 2 _ rfl
  have g0 := kk.2.1.froz 0 (by simp)
  have g1 := kk.2.1.froz 1 (by simp)
  have g2 := kk.2.1.froz 2 (by simp)
  have cl := kk.2.1.lt
  have r0 := kk.2.2.cell 0 _ rfl
  have r1 := kk.2.2.cell 1 _ rfl
  have r2 := kk.2.2.cell 2 _ rfl
  have f0 := kk.2.2.froz 0 (by simp)
  have f1 := kk.2.2.froz 1 (by simp)
  have f2 := kk.2.2.froz 2 (by simp)
  have rl := kk.2.2.lt
  have K2 := Lib.hid kk
  have HB2 := Lib.hid hbb
  have hsz2 := hbb.size
  clear kk hbb
  have HD := Lib.hid (drop14_any w2.drew B B' S (some ⟨g, off, none⟩) A' n c m d es ks (HV.out.below (HB2.out.drew.mono hB)) (HA.out.below (HB2.out.drew.mono hB')) HO.out.srt (by omega) (Nat.le_trans hB hsz2) (Nat.le_trans hB' hsz2) hh)
  rw [HPP.out] at HD
  have hd3 : w.heap.size + 1 < w2.drew.heap.size := cl
  go_region_held3 (fun W => W.cell? ⟨w.heap.size, 2, none⟩ = some (.slice A' m d) ∧ W.cell? ⟨w.heap.size, 3, none⟩ = some (.int .i64 x) ∧ W.cell? ⟨(w.heap.size + 1 + 1), 0, none⟩ = some (.bool true) ∧ W.cell? ⟨(w.heap.size + 1 + 1), 1, none⟩ = some (.int .i64 (0)) ∧ W.cell? ⟨(w.heap.size + 1 + 1), 2, none⟩ = some (.int .i64 (xv))) (first | go_keep | (refine ⟨?_, ?_, ?_, ?_, ?_⟩ <;> (rw [World.cell?_setCell_other _ _ _ _ (by simp), World.cell?_setCell_other _ _ _ _ (by simp), World.cell?_setCell_other _ _ _ _ (by simp)]; assumption))) (((with_reducible refine (HD.out).mono ?_); rintro e w3 ⟨A2, n2, c3, rfl, ho3, hb3⟩; have kk := And.intro (K2.out.1.drew.below hb3) (And.intro (K2.out.2.1.drew.below hb3) (K2.out.2.2.drew.below hb3)); clear p1 p2 p3 pl c0 c1 c2 g0 g1 g2 cl r0 r1 r2 f0 f1 f2 rl; have p1 := kk.1.cell 1 _ rfl; have p2 := kk.1.cell 2 _ rfl; have p3 := kk.1.cell 3 _ rfl; have pl := kk.1.lt; have c0 := kk.2.1.cell 0 _ rfl; have c1 := kk.2.1.cell 1 _ rfl; have c2 := kk.2.1.cell 2 _ rfl; have g0 := kk.2.1.froz 0 (by simp); have g1 := kk.2.1.froz 1 (by simp); have g2 := kk.2.1.froz 2 (by simp); have cl := kk.2.1.lt; have r0 := kk.2.2.cell 0 _ rfl; have r1 := kk.2.2.cell 1 _ rfl; have r2 := kk.2.2.cell 2 _ rfl; have f0 := kk.2.2.froz 0 (by simp); have f1 := kk.2.2.froz 1 (by simp); have f2 := kk.2.2.froz 2 (by simp); have rl := kk.2.2.lt; have K3 := Lib.hid kk; have HB3 := Lib.hid (HB2.out.drew.trans (hb3.mono (Nat.le_trans hsz2 (Nat.le_refl _)))); have HO3 := Lib.hid ho3; clear kk hb3 ho3))
  all_goals
    go_wp2
    have bz := ((K3.out.2.1).put3 (.bool true) (.int .i64 (0)) (.int .i64 (xv)))
    have z0 := bz.cell 0 _ rfl
    have z1 := bz.cell 1 _ rfl
    have z2 := bz.cell 2 _ rfl
    have hbz := (below_put3 HB3.out (b := w.heap.size + 1) (by omega) (.bool true) (.int .i64 (0)) (.int .i64 (xv)))
    have hoz := ((HO3.out.other (b := w.heap.size + 1) (i := 0) (v := .bool true) hd3).other (b := w.heap.size + 1) (i := 1) (v := .int .i64 (0)) hd3).other (b := w.heap.size + 1) (i := 2) (v := .int .i64 (xv)) hd3
    have hv := dn_row HV.out HA.out hm hB hB' HAP.out HSS.out hsz2 hoz hbz (x := x) (fun e he => .inl ((List.mem_append.1 he).elim List.mem_of_mem_take List.mem_of_mem_drop))
    clear bz
    exact bodyPost_ret (v := .tuple #[.slice A2 n2 c3, .agg #[.bool true, .int .i64 (0), .int .i64 (xv)]]) (by simp [results, Try.results50, go_sem, z0, z1, z2]) rfl ⟨A2, n2, c3, _, rfl, hv, by rw [cutK, HPP.out]; simp, hbz⟩
set_option maxHeartbeats 12800000 in
theorem done_putfalse (w : World) (B B' : Nat) (S : List Nat) (A A' : Option Addr) (n c m d : Nat) (es : List KV) (ks : List Nat) (who x : Int) (h : VerA w B S A n c es) (h' : Arg w B' A' m d ks) (hm : m ≤ 256) (ho : WfL (es.map KV.ent)) (hn : n ≤ 4096) (hB : B ≤ w.heap.size) (hB' : B' ≤ w.heap.size) (hAp : Apt S A' m) (hS : ∀ x ∈ S, x < w.heap.size) (hh : hasK (es.map KV.ent) ks = false) :
    Calls Try.prog 50 #[.slice A n c, .agg #[.int .i64 who, .int .u8 2, .slice A' m d, .int .i64 x]] w (DnEnd w S (putK (es.map KV.ent) ks x) (0) (x)) := by
  have hl := h.len
  have hple := plK_le (es.map KV.ent) ks
  rw [List.length_map, hl] at hple
  have hb0 : Below w.heap.size w (((w.alloc (.cells #[.int .i64 who, .int .u8 2, .slice A' m d, .int .i64 x] 72)).alloc (.cells #[.bool false, .int .i64 0, .int .i64 0] 79)).alloc (.cells #[.bool true, .int .i64 0, .int .i64 0] 79)) := (((Below.refl _ w).alloc (Nat.le_refl _) _).alloc (by simp) _).alloc (by simp; omega) _
  have kp := ((BlkL.new w [.int .i64 who, .int .u8 2, .slice A' m d, .int .i64 x] 72).alloc (.cells #[.bool false, .int .i64 0, .int .i64 0] 79)).alloc (.cells #[.bool true, .int .i64 0, .int .i64 0] 79)
  have k5 := (BlkL.new (w.alloc (.cells #[.int .i64 who, .int .u8 2, .slice A' m d, .int .i64 x] 72)) [.bool false, .int .i64 0, .int .i64 0] 79).alloc (.cells #[.bool true, .int .i64 0, .int .i64 0] 79)
  have k6 := BlkL.new ((w.alloc (.cells #[.int .i64 who, .int .u8 2, .slice A' m d, .int .i64 x] 72)).alloc (.cells #[.bool false, .int .i64 0, .int .i64 0] 79)) [.bool true, .int .i64 0, .int .i64 0] 79
  simp only [World.size_alloc] at k5 k6
  have hf := find14_any (((w.alloc (.cells #[.int .i64 who, .int .u8 2, .slice A' m d, .int .i64 x] 72)).alloc (.cells #[.bool false, .int .i64 0, .int .i64 0] 79)).alloc (.cells #[.bool true, .int .i64 0, .int .i64 0] 79)) B B' S A A' n c m d es ks (h.below (hb0.mono hB)) (h'.below (hb0.mono hB')) ho.srt (by omega) (Nat.le_trans hB hb0.size) (Nat.le_trans hB' hb0.size)
  rw [findV, hh] at hf
  simp only [Bool.false_eq_true, if_false] at hf
  have HF := Lib.hid hf
  have HB0 := Lib.hid hb0
  have KK := Lib.hid (And.intro kp (And.intro k5 k6))
  have HV := Lib.hid h
  have HA := Lib.hid h'
  have HO := Lib.hid ho
  have HAP := Lib.hid hAp
  have HSS := Lib.hid hS
  clear hAp hS
  clear hf hb0 kp k5 k6 h h' ho
  generalize hpp : plK (es.map KV.ent) ks = p at *
  have HPP := Lib.hid hpp
  clear hpp
  go_enter Try.func50, Try.ntmps50
  go_wp2_with fail
  with_reducible refine HF.out.mono ?_
  rintro e w1 ⟨rfl, hb1⟩
  have kp1 := KK.out.1.below hb1
  have k51 := KK.out.2.1.below hb1
  have k61 := KK.out.2.2.below hb1
  have hb2 := HB0.out.trans (hb1.mono HB0.out.size)
  have hsz := hb2.size
  have HB1 := Lib.hid hb2
  have p1 := kp1.cell 1 _ rfl
  have p2 := kp1.cell 2 _ rfl
  have p3 := kp1.cell 3 _ rfl
  have pl := kp1.lt
  have c0 := k51.cell 0 _ rfl
  have c1 := k51.cell 1 _ rfl
  have c2 := k51.cell 2 _ rfl
  have g0 := k51.froz 0 (by simp)
  have g1 := k51.froz 1 (by simp)
  have g2 := k51.froz 2 (by simp)
  have cl := k51.lt
  have r0 := k61.cell 0 _ rfl
  have r1 := k61.cell 1 _ rfl
  have r2 := k61.cell 2 _ rfl
  have f0 := k61.froz 0 (by simp)
  have f1 := k61.froz 1 (by simp)
  have f2 := k61.froz 2 (by simp)
  have rl := k61.lt
  have K1 := Lib.hid (And.intro kp1 (And.intro k51 k61))
  clear hb1 hb2 kp1 k51 k61 HB0 KK HF
  go_wp2_with fail
  have kk := And.intro (K1.out.1.other (w.heap.size + 1 + 1) 2 (.int .i64 x) (by omega)) (And.intro (K1.out.2.1.other (w.heap.size + 1 + 1) 2 (.int .i64 x) (by omega)) (K1.out.2.2.set 2 (.int .i64 x) (by simp)))
  simp only [List.set] at kk
  have hbb : Below w.heap.size w (w1.setCell ⟨(w.heap.size + 1 + 1), 2, none⟩ (.int .i64 x)) := HB1.out.setCell (by simp; omega) _
  clear p1 p2 p3 pl c0 c1 c2 g0 g1 g2 cl r0 r1 r2 f0 f1 f2 rl K1 HB1
  generalize w1.setCell ⟨(w.heap.size + 1 + 1), 2, none⟩ (.int .i64 x) = w2 at *
  have p1 := kk.1.cell 1 _ rfl
  have p2 := kk.1.cell 2 _ rfl
  have p3 := kk.1.cell 3 _ rfl
  have pl := kk.1.lt
  have c0 := kk.2.1.cell 0 _ rfl
  have c1 := kk.2.1.cell 1 _ rfl
  have c2 := kk.2.1.cell 2 _ rfl
  have g0 := kk.2.1.froz 0 (by simp)
  have g1 := kk.2.1.froz 1 (by simp)
  have g2 := kk.2.1.froz 2 (by simp)
  have cl := kk.2.1.lt
  have r0 := kk.2.2.cell 0 _ rfl
  have r1 := kk.2.2.cell 1 _ rfl
  have r2 := kk.2.2.cell 2 _ rfl
  have f0 := kk.2.2.froz 0 (by simp)
  have f1 := kk.2.2.froz 1 (by simp)
  have f2 := kk.2.2.froz 2 (by simp)
  have rl := kk.2.2.lt
  have K2 := Lib.hid kk
  have HB2 := Lib.hid hbb
  have hsz2 := hbb.size
  clear kk hbb
  have HD := Lib.hid (put14_any w2.drew B B' S A A' n c m d es ks x (HV.out.below (HB2.out.drew.mono hB)) (HA.out.below (HB2.out.drew.mono hB')) HO.out.srt (by omega) (Nat.le_trans hB hsz2) (Nat.le_trans hB' hsz2))
  rw [HPP.out] at HD
  have hd3 : w.heap.size + 1 < w2.drew.heap.size := cl
  go_region_held3 (fun W => W.cell? ⟨w.heap.size, 2, none⟩ = some (.slice A' m d) ∧ W.cell? ⟨w.heap.size, 3, none⟩ = some (.int .i64 x) ∧ W.cell? ⟨(w.heap.size + 1 + 1), 0, none⟩ = some (.bool true) ∧ W.cell? ⟨(w.heap.size + 1 + 1), 1, none⟩ = some (.int .i64 (0)) ∧ W.cell? ⟨(w.heap.size + 1 + 1), 2, none⟩ = some (.int .i64 (x))) (first | go_keep | (refine ⟨?_, ?_, ?_, ?_, ?_⟩ <;> (rw [World.cell?_setCell_other _ _ _ _ (by simp), World.cell?_setCell_other _ _ _ _ (by simp), World.cell?_setCell_other _ _ _ _ (by simp)]; assumption))) (((with_reducible refine (HD.out).mono ?_); rintro e w3 ⟨A2, n2, c3, rfl, ho3, hb3⟩; have kk := And.intro (K2.out.1.drew.below hb3) (And.intro (K2.out.2.1.drew.below hb3) (K2.out.2.2.drew.below hb3)); clear p1 p2 p3 pl c0 c1 c2 g0 g1 g2 cl r0 r1 r2 f0 f1 f2 rl; have p1 := kk.1.cell 1 _ rfl; have p2 := kk.1.cell 2 _ rfl; have p3 := kk.1.cell 3 _ rfl; have pl := kk.1.lt; have c0 := kk.2.1.cell 0 _ rfl; have c1 := kk.2.1.cell 1 _ rfl; have c2 := kk.2.1.cell 2 _ rfl; have g0 := kk.2.1.froz 0 (by simp); have g1 := kk.2.1.froz 1 (by simp); have g2 := kk.2.1.froz 2 (by simp); have cl := kk.2.1.lt; have r0 := kk.2.2.cell 0 _ rfl; have r1 := kk.2.2.cell 1 _ rfl; have r2 := kk.2.2.cell 2 _ rfl; have f0 := kk.2.2.froz 0 (by simp); have f1 := kk.2.2.froz 1 (by simp); have f2 := kk.2.2.froz 2 (by simp); have rl := kk.2.2.lt; have K3 := Lib.hid kk; have HB3 := Lib.hid (HB2.out.drew.trans (hb3.mono (Nat.le_trans hsz2 (Nat.le_refl _)))); have HO3 := Lib.hid ho3; clear kk hb3 ho3))
  all_goals
    go_wp2
    have bz := ((K3.out.2.1).put3 (.bool true) (.int .i64 (0)) (.int .i64 (x)))
    have z0 := bz.cell 0 _ rfl
    have z1 := bz.cell 1 _ rfl
    have z2 := bz.cell 2 _ rfl
    have hbz := (below_put3 HB3.out (b := w.heap.size + 1) (by omega) (.bool true) (.int .i64 (0)) (.int .i64 (x)))
    have hoz := ((HO3.out.other (b := w.heap.size + 1) (i := 0) (v := .bool true) hd3).other (b := w.heap.size + 1) (i := 1) (v := .int .i64 (0)) hd3).other (b := w.heap.size + 1) (i := 2) (v := .int .i64 (x)) hd3
    have hv := dn_row HV.out HA.out hm hB hB' HAP.out HSS.out hsz2 hoz hbz (x := x) (fun e he => (List.mem_append.1 he).elim (fun h1 => .inl (List.mem_of_mem_take h1)) (fun h1 => (List.mem_cons.1 h1).elim .inr (fun h2 => .inl (List.mem_of_mem_drop h2))))
    clear bz
    exact bodyPost_ret (v := .tuple #[.slice A2 n2 c3, .agg #[.bool true, .int .i64 (0), .int .i64 (x)]]) (by simp [results, Try.results50, go_sem, z0, z1, z2]) rfl ⟨A2, n2, c3, _, rfl, hv, by rw [putK, HPP.out]; simp [KV.ent], hbz⟩
set_option maxHeartbeats 12800000 in
theorem done_puttrue (w : World) (B B' : Nat) (S : List Nat) (A A' : Option Addr) (n c m d : Nat) (es : List KV) (ks : List Nat) (who x : Int) (h : VerA w B S A n c es) (h' : Arg w B' A' m d ks) (hm : m ≤ 256) (ho : WfL (es.map KV.ent)) (hn : n ≤ 4096) (hB : B ≤ w.heap.size) (hB' : B' ≤ w.heap.size) (hAp : Apt S A' m) (hS : ∀ x ∈ S, x < w.heap.size) (hh : hasK (es.map KV.ent) ks = true) :
    Calls Try.prog 50 #[.slice A n c, .agg #[.int .i64 who, .int .u8 2, .slice A' m d, .int .i64 x]] w (DnEnd w S (putK (es.map KV.ent) ks x) (0) (x)) := by
  have hl := h.len
  have hple := plK_le (es.map KV.ent) ks
  rw [List.length_map, hl] at hple
  have hb0 : Below w.heap.size w (((w.alloc (.cells #[.int .i64 who, .int .u8 2, .slice A' m d, .int .i64 x] 72)).alloc (.cells #[.bool false, .int .i64 0, .int .i64 0] 79)).alloc (.cells #[.bool true, .int .i64 0, .int .i64 0] 79)) := (((Below.refl _ w).alloc (Nat.le_refl _) _).alloc (by simp) _).alloc (by simp; omega) _
  have kp := ((BlkL.new w [.int .i64 who, .int .u8 2, .slice A' m d, .int .i64 x] 72).alloc (.cells #[.bool false, .int .i64 0, .int .i64 0] 79)).alloc (.cells #[.bool true, .int .i64 0, .int .i64 0] 79)
  have k5 := (BlkL.new (w.alloc (.cells #[.int .i64 who, .int .u8 2, .slice A' m d, .int .i64 x] 72)) [.bool false, .int .i64 0, .int .i64 0] 79).alloc (.cells #[.bool true, .int .i64 0, .int .i64 0] 79)
  have k6 := BlkL.new ((w.alloc (.cells #[.int .i64 who, .int .u8 2, .slice A' m d, .int .i64 x] 72)).alloc (.cells #[.bool false, .int .i64 0, .int .i64 0] 79)) [.bool true, .int .i64 0, .int .i64 0] 79
  simp only [World.size_alloc] at k5 k6
  have hf := find14_any (((w.alloc (.cells #[.int .i64 who, .int .u8 2, .slice A' m d, .int .i64 x] 72)).alloc (.cells #[.bool false, .int .i64 0, .int .i64 0] 79)).alloc (.cells #[.bool true, .int .i64 0, .int .i64 0] 79)) B B' S A A' n c m d es ks (h.below (hb0.mono hB)) (h'.below (hb0.mono hB')) ho.srt (by omega) (Nat.le_trans hB hb0.size) (Nat.le_trans hB' hb0.size)
  rw [findV, hh] at hf
  simp only [if_true] at hf
  have HF := Lib.hid hf
  have HB0 := Lib.hid hb0
  have KK := Lib.hid (And.intro kp (And.intro k5 k6))
  have HV := Lib.hid h
  have HA := Lib.hid h'
  have HO := Lib.hid ho
  have HAP := Lib.hid hAp
  have HSS := Lib.hid hS
  clear hAp hS
  obtain ⟨hp0, _⟩ := has_key hh
  rw [List.length_map, hl] at hp0
  clear hf hb0 kp k5 k6 h h' ho
  generalize hpp : plK (es.map KV.ent) ks = p at *
  have HPP := Lib.hid hpp
  clear hpp
  go_enter Try.func50, Try.ntmps50
  go_wp2_with fail
  with_reducible refine HF.out.mono ?_
  rintro e w1 ⟨rfl, hb1⟩
  have kp1 := KK.out.1.below hb1
  have k51 := KK.out.2.1.below hb1
  have k61 := KK.out.2.2.below hb1
  have hb2 := HB0.out.trans (hb1.mono HB0.out.size)
  have hsz := hb2.size
  have HB1 := Lib.hid hb2
  have p1 := kp1.cell 1 _ rfl
  have p2 := kp1.cell 2 _ rfl
  have p3 := kp1.cell 3 _ rfl
  have pl := kp1.lt
  have c0 := k51.cell 0 _ rfl
  have c1 := k51.cell 1 _ rfl
  have c2 := k51.cell 2 _ rfl
  have g0 := k51.froz 0 (by simp)
  have g1 := k51.froz 1 (by simp)
  have g2 := k51.froz 2 (by simp)
  have cl := k51.lt
  have r0 := k61.cell 0 _ rfl
  have r1 := k61.cell 1 _ rfl
  have r2 := k61.cell 2 _ rfl
  have f0 := k61.froz 0 (by simp)
  have f1 := k61.froz 1 (by simp)
  have f2 := k61.froz 2 (by simp)
  have rl := k61.lt
  have K1 := Lib.hid (And.intro kp1 (And.intro k51 k61))
  clear hb1 hb2 kp1 k51 k61 HB0 KK HF
  have j0 : (0 : Int) ≤ (p : Int) := by omega
  have j1 : ¬ (p : Int) < 0 := by omega
  go_wp2_with fail
  have kk := And.intro (K1.out.1.other (w.heap.size + 1 + 1) 2 (.int .i64 x) (by omega)) (And.intro (K1.out.2.1.other (w.heap.size + 1 + 1) 2 (.int .i64 x) (by omega)) (K1.out.2.2.set 2 (.int .i64 x) (by simp)))
  simp only [List.set] at kk
  have hbb : Below w.heap.size w (w1.setCell ⟨(w.heap.size + 1 + 1), 2, none⟩ (.int .i64 x)) := HB1.out.setCell (by simp; omega) _
  clear p1 p2 p3 pl c0 c1 c2 g0 g1 g2 cl r0 r1 r2 f0 f1 f2 rl K1 HB1
  generalize w1.setCell ⟨(w.heap.size + 1 + 1), 2, none⟩ (.int .i64 x) = w2 at *
  have p1 := kk.1.cell 1 _ rfl
  have p2 := kk.1.cell 2 _ rfl
  have p3 := kk.1.cell 3 _ rfl
  have pl := kk.1.lt
  have c0 := kk.2.1.cell 0 _ rfl
  have c1 := kk.2.1.cell 1 _ rfl
  have c2 := kk.2.1.cell 2 _ rfl
  have g0 := kk.2.1.froz 0 (by simp)
  have g1 := kk.2.1.froz 1 (by simp)
  have g2 := kk.2.1.froz 2 (by simp)
  have cl := kk.2.1.lt
  have r0 := kk.2.2.cell 0 _ rfl
  have r1 := kk.2.2.cell 1 _ rfl
  have r2 := kk.2.2.cell 2 _ rfl
  have f0 := kk.2.2.froz 0 (by simp)
  have f1 := kk.2.2.froz 1 (by simp)
  have f2 := kk.2.2.froz 2 (by simp)
  have rl := kk.2.2.lt
  have K2 := Lib.hid kk
  have HB2 := Lib.hid hbb
  have hsz2 := hbb.size
  clear kk hbb
  have HD := Lib.hid (put14_any w2.drew B B' S A A' n c m d es ks x (HV.out.below (HB2.out.drew.mono hB)) (HA.out.below (HB2.out.drew.mono hB')) HO.out.srt (by omega) (Nat.le_trans hB hsz2) (Nat.le_trans hB' hsz2))
  rw [HPP.out] at HD
  have hd3 : w.heap.size + 1 < w2.drew.heap.size := cl
  go_region_held3 (fun W => W.cell? ⟨w.heap.size, 2, none⟩ = some (.slice A' m d) ∧ W.cell? ⟨w.heap.size, 3, none⟩ = some (.int .i64 x) ∧ W.cell? ⟨(w.heap.size + 1 + 1), 0, none⟩ = some (.bool true) ∧ W.cell? ⟨(w.heap.size + 1 + 1), 1, none⟩ = some (.int .i64 (0)) ∧ W.cell? ⟨(w.heap.size + 1 + 1), 2, none⟩ = some (.int .i64 (x))) (first | go_keep | (refine ⟨?_, ?_, ?_, ?_, ?_⟩ <;> (rw [World.cell?_setCell_other _ _ _ _ (by simp), World.cell?_setCell_other _ _ _ _ (by simp), World.cell?_setCell_other _ _ _ _ (by simp)]; assumption))) (((with_reducible refine (HD.out).mono ?_); rintro e w3 ⟨A2, n2, c3, rfl, ho3, hb3⟩; have kk := And.intro (K2.out.1.drew.below hb3) (And.intro (K2.out.2.1.drew.below hb3) (K2.out.2.2.drew.below hb3)); clear p1 p2 p3 pl c0 c1 c2 g0 g1 g2 cl r0 r1 r2 f0 f1 f2 rl; have p1 := kk.1.cell 1 _ rfl; have p2 := kk.1.cell 2 _ rfl; have p3 := kk.1.cell 3 _ rfl; have pl := kk.1.lt; have c0 := kk.2.1.cell 0 _ rfl; have c1 := kk.2.1.cell 1 _ rfl; have c2 := kk.2.1.cell 2 _ rfl; have g0 := kk.2.1.froz 0 (by simp); have g1 := kk.2.1.froz 1 (by simp); have g2 := kk.2.1.froz 2 (by simp); have cl := kk.2.1.lt; have r0 := kk.2.2.cell 0 _ rfl; have r1 := kk.2.2.cell 1 _ rfl; have r2 := kk.2.2.cell 2 _ rfl; have f0 := kk.2.2.froz 0 (by simp); have f1 := kk.2.2.froz 1 (by simp); have f2 := kk.2.2.froz 2 (by simp); have rl := kk.2.2.lt; have K3 := Lib.hid kk; have HB3 := Lib.hid (HB2.out.drew.trans (hb3.mono (Nat.le_trans hsz2 (Nat.le_refl _)))); have HO3 := Lib.hid ho3; clear kk hb3 ho3))
  all_goals
    go_wp2
    have bz := ((K3.out.2.1).put3 (.bool true) (.int .i64 (0)) (.int .i64 (x)))
    have z0 := bz.cell 0 _ rfl
    have z1 := bz.cell 1 _ rfl
    have z2 := bz.cell 2 _ rfl
    have hbz := (below_put3 HB3.out (b := w.heap.size + 1) (by omega) (.bool true) (.int .i64 (0)) (.int .i64 (x)))
    have hoz := ((HO3.out.other (b := w.heap.size + 1) (i := 0) (v := .bool true) hd3).other (b := w.heap.size + 1) (i := 1) (v := .int .i64 (0)) hd3).other (b := w.heap.size + 1) (i := 2) (v := .int .i64 (x)) hd3
    have hv := dn_row HV.out HA.out hm hB hB' HAP.out HSS.out hsz2 hoz hbz (x := x) (fun e he => (List.mem_append.1 he).elim (fun h1 => .inl (List.mem_of_mem_take h1)) (fun h1 => (List.mem_cons.1 h1).elim .inr (fun h2 => .inl (List.mem_of_mem_drop h2))))
    clear bz
    exact bodyPost_ret (v := .tuple #[.slice A2 n2 c3, .agg #[.bool true, .int .i64 (0), .int .i64 (x)]]) (by simp [results, Try.results50, go_sem, z0, z1, z2]) rfl ⟨A2, n2, c3, _, rfl, hv, by rw [putK, HPP.out]; simp [KV.ent], hbz⟩
set_option maxHeartbeats 12800000 in
theorem done_addfalse (w : World) (B B' : Nat) (S : List Nat) (A A' : Option Addr) (n c m d : Nat) (es : List KV) (ks : List Nat) (who x : Int) (h : VerA w B S A n c es) (h' : Arg w B' A' m d ks) (hm : m ≤ 256) (ho : WfL (es.map KV.ent)) (hn : n ≤ 4096) (hB : B ≤ w.heap.size) (hB' : B' ≤ w.heap.size) (hAp : Apt S A' m) (hS : ∀ x ∈ S, x < w.heap.size) (hh : hasK (es.map KV.ent) ks = false) (hx : 0 ≤ x ∧ x ≤ 4611686018427387903) :
    Calls Try.prog 50 #[.slice A n c, .agg #[.int .i64 who, .int .u8 3, .slice A' m d, .int .i64 x]] w (DnEnd w S (putK (es.map KV.ent) ks (clampV (0 + x))) (0) (clampV (0 + x))) := by
  have hl := h.len
  have hple := plK_le (es.map KV.ent) ks
  rw [List.length_map, hl] at hple
  have hb0 : Below w.heap.size w (((w.alloc (.cells #[.int .i64 who, .int .u8 3, .slice A' m d, .int .i64 x] 72)).alloc (.cells #[.bool false, .int .i64 0, .int .i64 0] 79)).alloc (.cells #[.bool true, .int .i64 0, .int .i64 0] 79)) := (((Below.refl _ w).alloc (Nat.le_refl _) _).alloc (by simp) _).alloc (by simp; omega) _
  have kp := ((BlkL.new w [.int .i64 who, .int .u8 3, .slice A' m d, .int .i64 x] 72).alloc (.cells #[.bool false, .int .i64 0, .int .i64 0] 79)).alloc (.cells #[.bool true, .int .i64 0, .int .i64 0] 79)
  have k5 := (BlkL.new (w.alloc (.cells #[.int .i64 who, .int .u8 3, .slice A' m d, .int .i64 x] 72)) [.bool false, .int .i64 0, .int .i64 0] 79).alloc (.cells #[.bool true, .int .i64 0, .int .i64 0] 79)
  have k6 := BlkL.new ((w.alloc (.cells #[.int .i64 who, .int .u8 3, .slice A' m d, .int .i64 x] 72)).alloc (.cells #[.bool false, .int .i64 0, .int .i64 0] 79)) [.bool true, .int .i64 0, .int .i64 0] 79
  simp only [World.size_alloc] at k5 k6
  have hf := find14_any (((w.alloc (.cells #[.int .i64 who, .int .u8 3, .slice A' m d, .int .i64 x] 72)).alloc (.cells #[.bool false, .int .i64 0, .int .i64 0] 79)).alloc (.cells #[.bool true, .int .i64 0, .int .i64 0] 79)) B B' S A A' n c m d es ks (h.below (hb0.mono hB)) (h'.below (hb0.mono hB')) ho.srt (by omega) (Nat.le_trans hB hb0.size) (Nat.le_trans hB' hb0.size)
  rw [findV, hh] at hf
  simp only [Bool.false_eq_true, if_false] at hf
  have HF := Lib.hid hf
  have HB0 := Lib.hid hb0
  have KK := Lib.hid (And.intro kp (And.intro k5 k6))
  have HV := Lib.hid h
  have HA := Lib.hid h'
  have HO := Lib.hid ho
  have HAP := Lib.hid hAp
  have HSS := Lib.hid hS
  clear hAp hS
  have hvl := fun (W : World) (hb : Below w.heap.size w W) => value14_any W B B' S A A' n c m d es ks (h.below (hb.mono hB)) (h'.below (hb.mono hB')) ho.srt (by omega) (Nat.le_trans hB hb.size) (Nat.le_trans hB' hb.size)
  simp only [hh, Bool.false_eq_true, if_false] at hvl
  have htk : (0 : Int) ≤ 0 ∧ (0 : Int) ≤ 4611686018427387903 := by omega
  have HADD := Lib.hid (fun W => radd_int W 0 x htk hx)
  generalize clampV (0 + x) = y at *
  have HVA := Lib.hid hvl
  clear hvl htk
  clear hf hb0 kp k5 k6 h h' ho
  generalize hpp : plK (es.map KV.ent) ks = p at *
  have HPP := Lib.hid hpp
  clear hpp
  go_enter Try.func50, Try.ntmps50
  go_wp2_with fail
  with_reducible refine HF.out.mono ?_
  rintro e w1 ⟨rfl, hb1⟩
  have kp1 := KK.out.1.below hb1
  have k51 := KK.out.2.1.below hb1
  have k61 := KK.out.2.2.below hb1
  have hb2 := HB0.out.trans (hb1.mono HB0.out.size)
  have hsz := hb2.size
  have HB1 := Lib.hid hb2
  have p1 := kp1.cell 1 _ rfl
  have p2 := kp1.cell 2 _ rfl
  have p3 := kp1.cell 3 _ rfl
  have pl := kp1.lt
  have c0 := k51.cell 0 _ rfl
  have c1 := k51.cell 1 _ rfl
  have c2 := k51.cell 2 _ rfl
  have g0 := k51.froz 0 (by simp)
  have g1 := k51.froz 1 (by simp)
  have g2 := k51.froz 2 (by simp)
  have cl := k51.lt
  have r0 := k61.cell 0 _ rfl
  have r1 := k61.cell 1 _ rfl
  have r2 := k61.cell 2 _ rfl
  have f0 := k61.froz 0 (by simp)
  have f1 := k61.froz 1 (by simp)
  have f2 := k61.froz 2 (by simp)
  have rl := k61.lt
  have K1 := Lib.hid (And.intro kp1 (And.intro k51 k61))
  clear hb1 hb2 kp1 k51 k61 HB0 KK HF
  have HVL := Lib.hid (HVA.out w1.drew HB1.out.drew)
  go_wp2_with fail
  go_region_held3 (fun W => W.cell? ⟨w.heap.size, 2, none⟩ = some (.slice A' m d) ∧ W.cell? ⟨w.heap.size, 3, none⟩ = some (.int .i64 x)) (first | go_keep | (refine ⟨?_, ?_⟩ <;> (rw [World.cell?_setCell_other _ _ _ _ (by simp)]; assumption))) (first | (((with_reducible refine (HVL.out).mono ?_); rintro e w3 ⟨rfl, hb3⟩; have kk := And.intro (K1.out.1.drew.below hb3) (And.intro (K1.out.2.1.drew.below hb3) (K1.out.2.2.drew.below hb3)); clear p1 p2 p3 pl c0 c1 c2 g0 g1 g2 cl r0 r1 r2 f0 f1 f2 rl; have p1 := kk.1.cell 1 _ rfl; have p2 := kk.1.cell 2 _ rfl; have p3 := kk.1.cell 3 _ rfl; have pl := kk.1.lt; have c0 := kk.2.1.cell 0 _ rfl; have c1 := kk.2.1.cell 1 _ rfl; have c2 := kk.2.1.cell 2 _ rfl; have g0 := kk.2.1.froz 0 (by simp); have g1 := kk.2.1.froz 1 (by simp); have g2 := kk.2.1.froz 2 (by simp); have cl := kk.2.1.lt; have r0 := kk.2.2.cell 0 _ rfl; have r1 := kk.2.2.cell 1 _ rfl; have r2 := kk.2.2.cell 2 _ rfl; have f0 := kk.2.2.froz 0 (by simp); have f1 := kk.2.2.froz 1 (by simp); have f2 := kk.2.2.froz 2 (by simp); have rl := kk.2.2.lt; have K3 := Lib.hid kk; have HB3 := Lib.hid (HB1.out.drew.trans (hb3.mono hsz)); have hsz3 := HB3.out.size; clear kk hb3)) | (((with_reducible refine (HADD.out _).mono ?_); rintro e w4 ⟨rfl, hb4⟩; have kk := And.intro (K3.out.1.below hb4) (And.intro (K3.out.2.1.below hb4) (K3.out.2.2.below hb4)); clear p1 p2 p3 pl c0 c1 c2 g0 g1 g2 cl r0 r1 r2 f0 f1 f2 rl; have p1 := kk.1.cell 1 _ rfl; have p2 := kk.1.cell 2 _ rfl; have p3 := kk.1.cell 3 _ rfl; have pl := kk.1.lt; have c0 := kk.2.1.cell 0 _ rfl; have c1 := kk.2.1.cell 1 _ rfl; have c2 := kk.2.1.cell 2 _ rfl; have g0 := kk.2.1.froz 0 (by simp); have g1 := kk.2.1.froz 1 (by simp); have g2 := kk.2.1.froz 2 (by simp); have cl := kk.2.1.lt; have r0 := kk.2.2.cell 0 _ rfl; have r1 := kk.2.2.cell 1 _ rfl; have r2 := kk.2.2.cell 2 _ rfl; have f0 := kk.2.2.froz 0 (by simp); have f1 := kk.2.2.froz 1 (by simp); have f2 := kk.2.2.froz 2 (by simp); have rl := kk.2.2.lt; have K4 := Lib.hid kk; have HB4 := Lib.hid (HB3.out.trans (hb4.mono hsz3)); clear kk hb4)))
  all_goals
    have kk := And.intro (K4.out.1.other (w.heap.size + 1 + 1) 2 (.int .i64 y) (by omega)) (And.intro (K4.out.2.1.other (w.heap.size + 1 + 1) 2 (.int .i64 y) (by omega)) (K4.out.2.2.set 2 (.int .i64 y) (by simp)))
    simp only [List.set] at kk
    have hbb : Below w.heap.size w (w4.setCell ⟨(w.heap.size + 1 + 1), 2, none⟩ (.int .i64 y)) := HB4.out.setCell (by simp; omega) _
    clear p1 p2 p3 pl c0 c1 c2 g0 g1 g2 cl r0 r1 r2 f0 f1 f2 rl K4 HB4
    generalize w4.setCell ⟨(w.heap.size + 1 + 1), 2, none⟩ (.int .i64 y) = w5 at *
    have p1 := kk.1.cell 1 _ rfl
    have p2 := kk.1.cell 2 _ rfl
    have p3 := kk.1.cell 3 _ rfl
    have pl := kk.1.lt
    have c0 := kk.2.1.cell 0 _ rfl
    have c1 := kk.2.1.cell 1 _ rfl
    have c2 := kk.2.1.cell 2 _ rfl
    have g0 := kk.2.1.froz 0 (by simp)
    have g1 := kk.2.1.froz 1 (by simp)
    have g2 := kk.2.1.froz 2 (by simp)
    have cl := kk.2.1.lt
    have r0 := kk.2.2.cell 0 _ rfl
    have r1 := kk.2.2.cell 1 _ rfl
    have r2 := kk.2.2.cell 2 _ rfl
    have f0 := kk.2.2.froz 0 (by simp)
    have f1 := kk.2.2.froz 1 (by simp)
    have f2 := kk.2.2.froz 2 (by simp)
    have rl := kk.2.2.lt
    have K5 := Lib.hid kk
    have HB5 := Lib.hid hbb
    have hsz2 := hbb.size
    clear kk hbb
    go_wp2_with fail
    have HD := Lib.hid (put14_any w5.drew B B' S A A' n c m d es ks y (HV.out.below (HB5.out.drew.mono hB)) (HA.out.below (HB5.out.drew.mono hB')) HO.out.srt (by omega) (Nat.le_trans hB hsz2) (Nat.le_trans hB' hsz2))
    rw [HPP.out] at HD
    have hd3 : w.heap.size + 1 < w5.drew.heap.size := cl
    clear K3 HB3
    go_region_held3 (fun W => W.cell? ⟨w.heap.size, 2, none⟩ = some (.slice A' m d) ∧ W.cell? ⟨w.heap.size, 3, none⟩ = some (.int .i64 x) ∧ W.cell? ⟨(w.heap.size + 1 + 1), 0, none⟩ = some (.bool true) ∧ W.cell? ⟨(w.heap.size + 1 + 1), 1, none⟩ = some (.int .i64 (0)) ∧ W.cell? ⟨(w.heap.size + 1 + 1), 2, none⟩ = some (.int .i64 (y))) (first | go_keep | (refine ⟨?_, ?_, ?_, ?_, ?_⟩ <;> (rw [World.cell?_setCell_other _ _ _ _ (by simp), World.cell?_setCell_other _ _ _ _ (by simp), World.cell?_setCell_other _ _ _ _ (by simp)]; assumption))) (((with_reducible refine (HD.out).mono ?_); rintro e w3 ⟨A2, n2, c3, rfl, ho3, hb3⟩; have kk := And.intro (K5.out.1.drew.below hb3) (And.intro (K5.out.2.1.drew.below hb3) (K5.out.2.2.drew.below hb3)); clear p1 p2 p3 pl c0 c1 c2 g0 g1 g2 cl r0 r1 r2 f0 f1 f2 rl; have p1 := kk.1.cell 1 _ rfl; have p2 := kk.1.cell 2 _ rfl; have p3 := kk.1.cell 3 _ rfl; have pl := kk.1.lt; have c0 := kk.2.1.cell 0 _ rfl; have c1 := kk.2.1.cell 1 _ rfl; have c2 := kk.2.1.cell 2 _ rfl; have g0 := kk.2.1.froz 0 (by simp); have g1 := kk.2.1.froz 1 (by simp); have g2 := kk.2.1.froz 2 (by simp); have cl := kk.2.1.lt; have r0 := kk.2.2.cell 0 _ rfl; have r1 := kk.2.2.cell 1 _ rfl; have r2 := kk.2.2.cell 2 _ rfl; have f0 := kk.2.2.froz 0 (by simp); have f1 := kk.2.2.froz 1 (by simp); have f2 := kk.2.2.froz 2 (by simp); have rl := kk.2.2.lt; have K3 := Lib.hid kk; have HB3 := Lib.hid (HB5.out.drew.trans (hb3.mono (Nat.le_trans hsz2 (Nat.le_refl _)))); have HO3 := Lib.hid ho3; clear kk hb3 ho3))
    all_goals
      go_wp2
      have bz := ((K3.out.2.1).put3 (.bool true) (.int .i64 (0)) (.int .i64 (y)))
      have z0 := bz.cell 0 _ rfl
      have z1 := bz.cell 1 _ rfl
      have z2 := bz.cell 2 _ rfl
      have hbz := (below_put3 HB3.out (b := w.heap.size + 1) (by omega) (.bool true) (.int .i64 (0)) (.int .i64 (y)))
      have hoz := ((HO3.out.other (b := w.heap.size + 1) (i := 0) (v := .bool true) hd3).other (b := w.heap.size + 1) (i := 1) (v := .int .i64 (0)) hd3).other (b := w.heap.size + 1) (i := 2) (v := .int .i64 (y)) hd3
      have hv := dn_row HV.out HA.out hm hB hB' HAP.out HSS.out hsz2 hoz hbz (x := y) (fun e he => (List.mem_append.1 he).elim (fun h1 => .inl (List.mem_of_mem_take h1)) (fun h1 => (List.mem_cons.1 h1).elim .inr (fun h2 => .inl (List.mem_of_mem_drop h2))))
      clear bz
      exact bodyPost_ret (v := .tuple #[.slice A2 n2 c3, .agg #[.bool true, .int .i64 (0), .int .i64 (y)]]) (by simp [results, Try.results50, go_sem, z0, z1, z2]) rfl ⟨A2, n2, c3, _, rfl, hv, by rw [putK, HPP.out]; simp [KV.ent], hbz⟩
set_option maxHeartbeats 12800000 in
theorem done_addtrue (w : World) (B B' : Nat) (S : List Nat) (A A' : Option Addr) (n c m d : Nat) (es : List KV) (ks : List Nat) (who x : Int) (h : VerA w B S A n c es) (h' : Arg w B' A' m d ks) (hm : m ≤ 256) (ho : WfL (es.map KV.ent)) (hn : n ≤ 4096) (hB : B ≤ w.heap.size) (hB' : B' ≤ w.heap.size) (hAp : Apt S A' m) (hS : ∀ x ∈ S, x < w.heap.size) (hh : hasK (es.map KV.ent) ks = true) (hx : 0 ≤ x ∧ x ≤ 4611686018427387903) :
    Calls Try.prog 50 #[.slice A n c, .agg #[.int .i64 who, .int .u8 3, .slice A' m d, .int .i64 x]] w (DnEnd w S (putK (es.map KV.ent) ks (clampV (((es.map KV.ent).getD (plK (es.map KV.ent) ks) noE).2 + x))) (0) (clampV (((es.map KV.ent).getD (plK (es.map KV.ent) ks) noE).2 + x))) := by
  have hl := h.len
  have hple := plK_le (es.map KV.ent) ks
  rw [List.length_map, hl] at hple
  have hb0 : Below w.heap.size w (((w.alloc (.cells #[.int .i64 who, .int .u8 3, .slice A' m d, .int .i64 x] 72)).alloc (.cells #[.bool false, .int .i64 0, .int .i64 0] 79)).alloc (.cells #[.bool true, .int .i64 0, .int .i64 0] 79)) := (((Below.refl _ w).alloc (Nat.le_refl _) _).alloc (by simp) _).alloc (by simp; omega) _
  have kp := ((BlkL.new w [.int .i64 who, .int .u8 3, .slice A' m d, .int .i64 x] 72).alloc (.cells #[.bool false, .int .i64 0, .int .i64 0] 79)).alloc (.cells #[.bool true, .int .i64 0, .int .i64 0] 79)
  have k5 := (BlkL.new (w.alloc (.cells #[.int .i64 who, .int .u8 3, .slice A' m d, .int .i64 x] 72)) [.bool false, .int .i64 0, .int .i64 0] 79).alloc (.cells #[.bool true, .int .i64 0, .int .i64 0] 79)
  have k6 := BlkL.new ((w.alloc (.cells #[.int .i64 who, .int .u8 3, .slice A' m d, .int .i64 x] 72)).alloc (.cells #[.bool false, .int .i64 0, .int .i64 0] 79)) [.bool true, .int .i64 0, .int .i64 0] 79
  simp only [World.size_alloc] at k5 k6
  have hf := find14_any (((w.alloc (.cells #[.int .i64 who, .int .u8 3, .slice A' m d, .int .i64 x] 72)).alloc (.cells #[.bool false, .int .i64 0, .int .i64 0] 79)).alloc (.cells #[.bool true, .int .i64 0, .int .i64 0] 79)) B B' S A A' n c m d es ks (h.below (hb0.mono hB)) (h'.below (hb0.mono hB')) ho.srt (by omega) (Nat.le_trans hB hb0.size) (Nat.le_trans hB' hb0.size)
  rw [findV, hh] at hf
  simp only [if_true] at hf
  have HF := Lib.hid hf
  have HB0 := Lib.hid hb0
  have KK := Lib.hid (And.intro kp (And.intro k5 k6))
  have HV := Lib.hid h
  have HA := Lib.hid h'
  have HO := Lib.hid ho
  have HAP := Lib.hid hAp
  have HSS := Lib.hid hS
  clear hAp hS
  obtain ⟨hp0, _⟩ := has_key hh
  rw [List.length_map, hl] at hp0
  have hvl := fun (W : World) (hb : Below w.heap.size w W) => value14_any W B B' S A A' n c m d es ks (h.below (hb.mono hB)) (h'.below (hb.mono hB')) ho.srt (by omega) (Nat.le_trans hB hb.size) (Nat.le_trans hB' hb.size)
  simp only [hh, if_true] at hvl
  have htk := ent_tick ho (p := plK (es.map KV.ent) ks) (by rw [List.length_map, hl]; exact hp0)
  generalize ((es.map KV.ent).getD (plK (es.map KV.ent) ks) noE).2 = va at *
  have HADD := Lib.hid (fun W => radd_int W va x htk hx)
  generalize clampV (va + x) = y at *
  have HVA := Lib.hid hvl
  clear hvl htk
  clear hf hb0 kp k5 k6 h h' ho
  generalize hpp : plK (es.map KV.ent) ks = p at *
  have HPP := Lib.hid hpp
  clear hpp
  go_enter Try.func50, Try.ntmps50
  go_wp2_with fail
  with_reducible refine HF.out.mono ?_
  rintro e w1 ⟨rfl, hb1⟩
  have kp1 := KK.out.1.below hb1
  have k51 := KK.out.2.1.below hb1
  have k61 := KK.out.2.2.below hb1
  have hb2 := HB0.out.trans (hb1.mono HB0.out.size)
  have hsz := hb2.size
  have HB1 := Lib.hid hb2
  have p1 := kp1.cell 1 _ rfl
  have p2 := kp1.cell 2 _ rfl
  have p3 := kp1.cell 3 _ rfl
  have pl := kp1.lt
  have c0 := k51.cell 0 _ rfl
  have c1 := k51.cell 1 _ rfl
  have c2 := k51.cell 2 _ rfl
  have g0 := k51.froz 0 (by simp)
  have g1 := k51.froz 1 (by simp)
  have g2 := k51.froz 2 (by simp)
  have cl := k51.lt
  have r0 := k61.cell 0 _ rfl
  have r1 := k61.cell 1 _ rfl
  have r2 := k61.cell 2 _ rfl
  have f0 := k61.froz 0 (by simp)
  have f1 := k61.froz 1 (by simp)
  have f2 := k61.froz 2 (by simp)
  have rl := k61.lt
  have K1 := Lib.hid (And.intro kp1 (And.intro k51 k61))
  clear hb1 hb2 kp1 k51 k61 HB0 KK HF
  have HVL := Lib.hid (HVA.out w1.drew HB1.out.drew)
  have j0 : (0 : Int) ≤ (p : Int) := by omega
  have j1 : ¬ (p : Int) < 0 := by omega
  go_wp2_with fail
  go_region_held3 (fun W => W.cell? ⟨w.heap.size, 2, none⟩ = some (.slice A' m d) ∧ W.cell? ⟨w.heap.size, 3, none⟩ = some (.int .i64 x)) (first | go_keep | (refine ⟨?_, ?_⟩ <;> (rw [World.cell?_setCell_other _ _ _ _ (by simp)]; assumption))) (first | (((with_reducible refine (HVL.out).mono ?_); rintro e w3 ⟨rfl, hb3⟩; have kk := And.intro (K1.out.1.drew.below hb3) (And.intro (K1.out.2.1.drew.below hb3) (K1.out.2.2.drew.below hb3)); clear p1 p2 p3 pl c0 c1 c2 g0 g1 g2 cl r0 r1 r2 f0 f1 f2 rl; have p1 := kk.1.cell 1 _ rfl; have p2 := kk.1.cell 2 _ rfl; have p3 := kk.1.cell 3 _ rfl; have pl := kk.1.lt; have c0 := kk.2.1.cell 0 _ rfl; have c1 := kk.2.1.cell 1 _ rfl; have c2 := kk.2.1.cell 2 _ rfl; have g0 := kk.2.1.froz 0 (by simp); have g1 := kk.2.1.froz 1 (by simp); have g2 := kk.2.1.froz 2 (by simp); have cl := kk.2.1.lt; have r0 := kk.2.2.cell 0 _ rfl; have r1 := kk.2.2.cell 1 _ rfl; have r2 := kk.2.2.cell 2 _ rfl; have f0 := kk.2.2.froz 0 (by simp); have f1 := kk.2.2.froz 1 (by simp); have f2 := kk.2.2.froz 2 (by simp); have rl := kk.2.2.lt; have K3 := Lib.hid kk; have HB3 := Lib.hid (HB1.out.drew.trans (hb3.mono hsz)); have hsz3 := HB3.out.size; clear kk hb3)) | (((with_reducible refine (HADD.out _).mono ?_); rintro e w4 ⟨rfl, hb4⟩; have kk := And.intro (K3.out.1.below hb4) (And.intro (K3.out.2.1.below hb4) (K3.out.2.2.below hb4)); clear p1 p2 p3 pl c0 c1 c2 g0 g1 g2 cl r0 r1 r2 f0 f1 f2 rl; have p1 := kk.1.cell 1 _ rfl; have p2 := kk.1.cell 2 _ rfl; have p3 := kk.1.cell 3 _ rfl; have pl := kk.1.lt; have c0 := kk.2.1.cell 0 _ rfl; have c1 := kk.2.1.cell 1 _ rfl; have c2 := kk.2.1.cell 2 _ rfl; have g0 := kk.2.1.froz 0 (by simp); have g1 := kk.2.1.froz 1 (by simp); have g2 := kk.2.1.froz 2 (by simp); have cl := kk.2.1.lt; have r0 := kk.2.2.cell 0 _ rfl; have r1 := kk.2.2.cell 1 _ rfl; have r2 := kk.2.2.cell 2 _ rfl; have f0 := kk.2.2.froz 0 (by simp); have f1 := kk.2.2.froz 1 (by simp); have f2 := kk.2.2.froz 2 (by simp); have rl := kk.2.2.lt; have K4 := Lib.hid kk; have HB4 := Lib.hid (HB3.out.trans (hb4.mono hsz3)); clear kk hb4)))
  all_goals
    have kk := And.intro (K4.out.1.other (w.heap.size + 1 + 1) 2 (.int .i64 y) (by omega)) (And.intro (K4.out.2.1.other (w.heap.size + 1 + 1) 2 (.int .i64 y) (by omega)) (K4.out.2.2.set 2 (.int .i64 y) (by simp)))
    simp only [List.set] at kk
    have hbb : Below w.heap.size w (w4.setCell ⟨(w.heap.size + 1 + 1), 2, none⟩ (.int .i64 y)) := HB4.out.setCell (by simp; omega) _
    clear p1 p2 p3 pl c0 c1 c2 g0 g1 g2 cl r0 r1 r2 f0 f1 f2 rl K4 HB4
    generalize w4.setCell ⟨(w.heap.size + 1 + 1), 2, none⟩ (.int .i64 y) = w5 at *
    have p1 := kk.1.cell 1 _ rfl
    have p2 := kk.1.cell 2 _ rfl
    have p3 := kk.1.cell 3 _ rfl
    have pl := kk.1.lt
    have c0 := kk.2.1.cell 0 _ rfl
    have c1 := kk.2.1.cell 1 _ rfl
    have c2 := kk.2.1.cell 2 _ rfl
    have g0 := kk.2.1.froz 0 (by simp)
    have g1 := kk.2.1.froz 1 (by simp)
    have g2 := kk.2.1.froz 2 (by simp)
    have cl := kk.2.1.lt
    have r0 := kk.2.2.cell 0 _ rfl
    have r1 := kk.2.2.cell 1 _ rfl
    have r2 := kk.2.2.cell 2 _ rfl
    have f0 := kk.2.2.froz 0 (by simp)
    have f1 := kk.2.2.froz 1 (by simp)
    have f2 := kk.2.2.froz 2 (by simp)
    have rl := kk.2.2.lt
    have K5 := Lib.hid kk
    have HB5 := Lib.hid hbb
    have hsz2 := hbb.size
    clear kk hbb
    go_wp2_with fail
    have HD := Lib.hid (put14_any w5.drew B B' S A A' n c m d es ks y (HV.out.below (HB5.out.drew.mono hB)) (HA.out.below (HB5.out.drew.mono hB')) HO.out.srt (by omega) (Nat.le_trans hB hsz2) (Nat.le_trans hB' hsz2))
    rw [HPP.out] at HD
    have hd3 : w.heap.size + 1 < w5.drew.heap.size := cl
    clear K3 HB3
    go_region_held3 (fun W => W.cell? ⟨w.heap.size, 2, none⟩ = some (.slice A' m d) ∧ W.cell? ⟨w.heap.size, 3, none⟩ = some (.int .i64 x) ∧ W.cell? ⟨(w.heap.size + 1 + 1), 0, none⟩ = some (.bool true) ∧ W.cell? ⟨(w.heap.size + 1 + 1), 1, none⟩ = some (.int .i64 (0)) ∧ W.cell? ⟨(w.heap.size + 1 + 1), 2, none⟩ = some (.int .i64 (y))) (first | go_keep | (refine ⟨?_, ?_, ?_, ?_, ?_⟩ <;> (rw [World.cell?_setCell_other _ _ _ _ (by simp), World.cell?_setCell_other _ _ _ _ (by simp), World.cell?_setCell_other _ _ _ _ (by simp)]; assumption))) (((with_reducible refine (HD.out).mono ?_); rintro e w3 ⟨A2, n2, c3, rfl, ho3, hb3⟩; have kk := And.intro (K5.out.1.drew.below hb3) (And.intro (K5.out.2.1.drew.below hb3) (K5.out.2.2.drew.below hb3)); clear p1 p2 p3 pl c0 c1 c2 g0 g1 g2 cl r0 r1 r2 f0 f1 f2 rl; have p1 := kk.1.cell 1 _ rfl; have p2 := kk.1.cell 2 _ rfl; have p3 := kk.1.cell 3 _ rfl; have pl := kk.1.lt; have c0 := kk.2.1.cell 0 _ rfl; have c1 := kk.2.1.cell 1 _ rfl; have c2 := kk.2.1.cell 2 _ rfl; have g0 := kk.2.1.froz 0 (by simp); have g1 := kk.2.1.froz 1 (by simp); have g2 := kk.2.1.froz 2 (by simp); have cl := kk.2.1.lt; have r0 := kk.2.2.cell 0 _ rfl; have r1 := kk.2.2.cell 1 _ rfl; have r2 := kk.2.2.cell 2 _ rfl; have f0 := kk.2.2.froz 0 (by simp); have f1 := kk.2.2.froz 1 (by simp); have f2 := kk.2.2.froz 2 (by simp); have rl := kk.2.2.lt; have K3 := Lib.hid kk; have HB3 := Lib.hid (HB5.out.drew.trans (hb3.mono (Nat.le_trans hsz2 (Nat.le_refl _)))); have HO3 := Lib.hid ho3; clear kk hb3 ho3))
    all_goals
      go_wp2
      have bz := ((K3.out.2.1).put3 (.bool true) (.int .i64 (0)) (.int .i64 (y)))
      have z0 := bz.cell 0 _ rfl
      have z1 := bz.cell 1 _ rfl
      have z2 := bz.cell 2 _ rfl
      have hbz := (below_put3 HB3.out (b := w.heap.size + 1) (by omega) (.bool true) (.int .i64 (0)) (.int .i64 (y)))
      have hoz := ((HO3.out.other (b := w.heap.size + 1) (i := 0) (v := .bool true) hd3).other (b := w.heap.size + 1) (i := 1) (v := .int .i64 (0)) hd3).other (b := w.heap.size + 1) (i := 2) (v := .int .i64 (y)) hd3
      have hv := dn_row HV.out HA.out hm hB hB' HAP.out HSS.out hsz2 hoz hbz (x := y) (fun e he => (List.mem_append.1 he).elim (fun h1 => .inl (List.mem_of_mem_take h1)) (fun h1 => (List.mem_cons.1 h1).elim .inr (fun h2 => .inl (List.mem_of_mem_drop h2))))
      clear bz
      exact bodyPost_ret (v := .tuple #[.slice A2 n2 c3, .agg #[.bool true, .int .i64 (0), .int .i64 (y)]]) (by simp [results, Try.results50, go_sem, z0, z1, z2]) rfl ⟨A2, n2, c3, _, rfl, hv, by rw [putK, HPP.out]; simp [KV.ent], hbz⟩
end Go.Proofs.Ytpjgpiiibgogeaa
