/- A run of a function, and any of them. -/
import Derived.Test.YtifldnkcheobhaaDoorCaH
namespace Go.Proofs.YtifldnkcheobhaaDoor
open Go.RowKit
set_option maxRecDepth 100000
set_option linter.unusedVariables false
set_option maxHeartbeats 4000000

theorem ptrO_none : ptrO none = .pointer none := rfl
theorem run_any {w0 : World} {p : List (List ActV)} {d : Nat} (hpo : ProgOk p) (HT : TellC w0) (HF : FailC w0) (HRun : RunC w0 p d) : RunC w0 p (d + 1) := by
  intro W B bm c Pa A s i bb by0 v b hg h6 hB hm hp hi hd hb
  obtain ⟨pb, po, pc, rfl, hpB, hpf⟩ := id hp
  obtain ⟨f, hf⟩ : ∃ f, p[i]? = some f := ⟨p[i], List.getElem?_eq_getElem hi⟩
  obtain ⟨F, hF1, hF2⟩ := hpf i f hf
  have hfa := hpo.acts i f hf
  have hpl := hpo.len
  have hlt := hm.blk.lt
  have c0 := hm.blk.cell 0 _ rfl
  have hBw := hm.hB
  -- the run's own block
  obtain ⟨bv, hbv⟩ : ∃ bv, ptrO bb = bv := ⟨_, rfl⟩
  have hbel := (Below.refl W.heap.size W).alloc (Nat.le_refl _) (.cells #[bv, .nilIface] 105)
  have hblk : BlkL (W.alloc (.cells #[bv, .nilIface] 105)) W.heap.size [bv, .nilIface] := BlkL.new W [bv, .nilIface] _
  have hbelB : Below B W (W.alloc (.cells #[bv, .nilIface] 105)) := hbel.mono hBw
  have ho : ByW w0 (W.alloc (.cells #[bv, .nilIface] 105)) B bm A (some W.heap.size) (ptrO bb) .nilIface none := by
    rw [hbv]
    exact ⟨hblk, .none, hBw, by omega, fun hh => by have := (hm.own.lt _ hh).2; omega, by simp [cbk]⟩
  have hbw := hb.below hbel
  have hcb0 : ∀ y ∈ cbk v, y < W.heap.size ∧ y ∉ bb.toList := by
    cases bb with
    | none => obtain ⟨rfl, -⟩ := hb; simp [cbk]
    | some z => intro y hy; have := hb.2.1.lt y hy; have k := hb.2.2.2.2.2 y hy; simp; exact ⟨this, k.2.2.1⟩
  have hbb0 : ∀ y ∈ bb.toList, y < W.heap.size := by
    cases bb with
    | none => simp
    | some z => intro y hy; simp at hy; subst hy; exact hb.1.lt
  have HBG := Lib.hid (begin_any (rb := W.heap.size) HT HF HRun f i (W.alloc (.cells #[bv, .nilIface] 105)) A c s bb by0 v b hfa.2 hfa.1 (by omega)
    (fun y hy => by have := hbb0 y hy; simp; omega) (fun y hy => by have := hcb0 y hy; exact ⟨by omega, this.2⟩) h6 hB (hg.below h6 hbelB) (hm.below hbel) (hp.below hbelB) (hF2.below hbelB) ho hbw)
  have hii : (i : Int) < (p.length : Int) := by omega
  have npb : ¬ pb = W.heap.size := by omega
  have hpb2 : pb < W.heap.size := by omega
  have HM0 := Lib.hid hm
  have HCB := Lib.hid hcb0
  have HBB := Lib.hid hbb0
  have HHB := Lib.hid hb
  have HPF := Lib.hid hf
  clear hg hm hp hb hbw ho hbel hbelB hblk hF2 hpf hfa hcb0 hbb0 hf
  rw [hbv]
  have hbox : (∃ a, bv = .pointer a) := by rw [← hbv]; exact ⟨_, rfl⟩
  obtain ⟨ba, rfl⟩ := hbox
  go_enter Tryd.func27, Tryd.ntmps27
  go_wp2_with fail
  with_reducible refine HBG.out.mono ?_
  rintro e w1 ⟨rfl, hE⟩
  obtain ⟨A', c', v', v1', k1, k2, k3, k4, k5, k6, k7⟩ := hE
  have r1 := k2.1.cell 1 _ rfl
  have hrl := k2.1.lt
  have K1 := Lib.hid k1
  have K2 := Lib.hid k2
  have K3 := Lib.hid k3
  have K4 := Lib.hid k4
  have K5 := Lib.hid k5
  have K6 := Lib.hid k6
  have K7 := Lib.hid k7
  clear k1 k2 k3 k4 k5 k6 k7
  go_wp2
  go_ret
  have hgd : p.getD i [] = f := by rw [List.getD_eq_getElem?_getD, HPF.out]; rfl
  refine ⟨v', rfl, A', c', v1', ?_, ?_, ?_, ?_, K5.out, ?_, ?_⟩
  · simp only [runV]; rw [hgd]; exact K1.out
  · simp only [runV]; rw [hgd]; exact K2.out.2.1
  · intro y hy
    have := K3.out y hy
    have q := K2.out.2.2.2.2.2 y hy
    simp only [World.size_alloc] at this
    exact ⟨by omega, q.2.2.2⟩
  · simp only [runV]; rw [hgd]; exact K4.out
  · have ha : Off (bm :: bb.toList ++ bkV A) W (W.alloc (.cells #[.pointer ba, .nilIface] 105)) := (Off.refl _ W).alloc _
    have k6 := K6.out
    refine ⟨k6.os.trans ha.os, k6.tape.trans ha.tape, k6.output.trans ha.output, Nat.le_trans ha.size k6.size, fun k hk hn => ?_⟩
    rw [← ha.block k hk hn]
    refine k6.block k (by simp; omega) (fun hh => ?_)
    simp only [List.mem_cons, List.mem_append, List.cons_append] at hh hn
    rcases hh with e | e | e
    · exact hn (Or.inl e)
    · omega
    · exact hn (Or.inr e)
  · intro y hy
    exact (K7.out y hy).imp id (fun q => by simp only [World.size_alloc] at q; omega)
theorem runC_all {w0 : World} {p : List (List ActV)} (hpo : ProgOk p) (HT : TellC w0) (HF : FailC w0) : ∀ d, RunC w0 p d := by
  intro d
  induction d with
  | zero => intro W B bm c Pa A s i bb by0 v b hg h6 hB hm hp hi hd hb; omega
  | succ d ih => exact run_any hpo HT HF ih
end Go.Proofs.YtifldnkcheobhaaDoor
