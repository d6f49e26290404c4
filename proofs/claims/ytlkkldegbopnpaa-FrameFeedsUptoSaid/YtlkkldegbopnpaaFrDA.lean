/- Contract: the document's Frames. -/
import Derived.Test.YtlkkldegbopnpaaFrCM
namespace Go.Proofs.Ytlkkldegbopnpaa
open Go.RowKit
set_option maxRecDepth 100000
set_option linter.unusedVariables false

/-- What holds at the head of each round of Frames. -/
def FraI (w : World) (zs : List Nat) (at_ : Nat) (lv : Value) (wr : World) : Prop :=
  ∃ (LA : Option Addr) (k kc : Nat) (rs : List Row), lv = .slice LA k kc ∧ Fr.frV zs = (rs.map (·.p) ++ (Fr.frV (zs.drop at_)).1, (Fr.frV (zs.drop at_)).2) ∧ PayL wr w.heap.size LA k kc rs ∧ Below w.heap.size w wr
/-- How Frames ends. -/
def FraE (w : World) (zs : List Nat) (e : Ending) (w' : World) : Prop :=
  ∃ (LA : Option Addr) (k kc : Nat) (rs : List Row), e = .returned (.tuple #[.slice LA k kc, .int .i64 ((zs.length - (Fr.frV zs).2.1.length : Nat) : Int), .bool (Fr.frV zs).2.2]) ∧ rs.map (·.p) = (Fr.frV zs).1 ∧ PayL w' w.heap.size LA k kc rs ∧ Below w.heap.size w w'
theorem fra_end {w wr : World} {zs : List Nat} {at_ N : Nat} {LA : Option Addr} {k kc : Nat} {rs : List Row} (hN : zs.length = N) (ha : at_ ≤ N) (bad : Bool) (hfr : Fr.frV zs = (rs.map (·.p) ++ (Fr.frV (zs.drop at_)).1, (Fr.frV (zs.drop at_)).2))
    (h0 : Fr.frV (zs.drop at_) = ([], zs.drop at_, bad)) (hp : PayL wr w.heap.size LA k kc rs) (hb : Below w.heap.size w wr) :
    FraE w zs (.returned (.tuple #[.slice LA k kc, .int .i64 (at_ : Int), .bool bad])) wr := by
  rw [h0] at hfr
  refine ⟨LA, k, kc, rs, ?_, by rw [hfr]; simp, hp, hb⟩
  have e : zs.length - (Fr.frV zs).2.1.length = at_ := by
    rw [hfr]
    show zs.length - (zs.drop at_).length = at_
    rw [List.length_drop]; omega
  rw [e, hfr]
set_option maxHeartbeats 3200000 in
theorem frames_any (w : World) (B : Nat) (A : Option Addr) (N c : Nat) (zs : List Nat) (h : Arg w B A N c zs) (hB : B ≤ w.heap.size) (hN : N ≤ 29000000000000) :
    Calls Try.prog 73 #[.slice A N c] w (FraE w zs) := by
  obtain ⟨j0, hj, hjz, hj1, hj2⟩ := info_parts pay_info
  have HL := Lib.hid h.len
  have HC : Hid (N ≤ c) := Lib.hid h.le
  have HA := Lib.hid (h.more hB)
  clear h
  go_enter Try.func73, Try.ntmps73
  go_wp2_with fail
  go_loopw [5, 6] (fun lv av wr => ∃ at_ : Nat, av = .int .i64 (at_ : Int) ∧ at_ ≤ N ∧ FraI w zs at_ lv wr) (fun _ av _ => N - (intOf av).toNat)
  case atStart => exact ⟨0, rfl, by omega, none, 0, 0, [], rfl, by simp, PayL.nil _ _, Below.refl _ _⟩
  case round =>
    obtain ⟨at_, rfl, ha, LA, k, kc, rs, rfl, hfr, hp, hb⟩ := hrel
    obtain ⟨r, hr⟩ : ∃ r, N = at_ + r := ⟨N - at_, by omega⟩
    have s1 : (N : Int) - (at_ : Int) = (r : Int) := by omega
    have hdl : (zs.drop at_).length = r := by rw [List.length_drop, HL.out]; omega
    have HR := Lib.hid hr
    have HFR := Lib.hid hfr
    have HP := Lib.hid hp
    have HB := Lib.hid hb
    have HDL := Lib.hid hdl
    clear hr hfr hp hb hdl
    rcases Nat.lt_or_ge r 4 with h4 | h4
    · have d4 : decide ((4 : Int) ≤ (r : Int)) = false := by simp; omega
      have d4' : ¬ (4 : Int) ≤ (r : Int) := by omega
      have HE := Lib.hid (fra_end HL.out ha false HFR.out (Fr.fr_short (by rw [HDL.out]; exact h4)) HP.out HB.out)
      go_wp2
      exact bodyPost_ret (v := .tuple #[.slice LA k kc, .int .i64 (at_ : Int), .bool false]) (by simp [results, Try.results73, go_sem]) rfl HE.out
    · have d4 : decide ((4 : Int) ≤ (r : Int)) = true := by simp; omega
      have d4' : (4 : Int) ≤ (r : Int) := by omega
      have hs4 : ∀ wz, (Instr.slice 22 (.slice A N c) (some (.int .i64 (at_ : Int))) (some (.int .i64 ((at_ : Int) + 4))) none).run Try.prog wz = .ok (.slice (frB A c at_) 4 (c - at_)) wz := fun wz => run_midB wz A N c at_ 4 (by have := HC.out; have := HR.out; omega)
      obtain ⟨sz, hsz⟩ : ∃ sz, Fr.sizeV (zs.drop at_) = sz := ⟨_, rfl⟩
      have har := (HA.out.below HB.out).mid (at_ := at_) (n := 4) (by have := HR.out; omega)
      have HNU : Hid (Calls Try.prog 58 #[.slice (frB A c at_) 4 (c - at_)] wr fun e w' => e = .returned (.int .u64 (sz : Nat)) ∧ wr = w') := by
        rw [← hsz]; exact Lib.hid (number7_any wr _ _ 4 _ _ (by omega) har)
      have hlt : sz < 4294967296 := by
        rw [← hsz]
        have := Tk.numV_lt har.byte
        rw [har.len] at this
        exact this
      have dw : IntKind.i64.wrap (sz : Int) = (sz : Int) := IntWalk.i64_in _ (by omega)
      have HSZ := Lib.hid hsz
      clear har hsz
      by_cases hbad : sz < 1 ∨ 4096 < sz
      · have HE := Lib.hid (fra_end HL.out ha true HFR.out (Fr.fr_bad (by rw [HDL.out]; exact h4) (by rw [HSZ.out]; exact hbad)) HP.out HB.out)
        rcases hbad with hbad | hbad
        · have d1 : decide ((sz : Int) < 1) = true := by simp; omega
          have d2 : sz = 0 := by omega
          subst d2
          go_wp2_with (with_reducible refine (HNU.out).mono ?_)
          rintro e w' ⟨rfl, rfl⟩
          go_wp2
          exact bodyPost_ret (v := .tuple #[.slice LA k kc, .int .i64 (at_ : Int), .bool true]) (by simp [results, Try.results73, go_sem]) rfl HE.out
        · have d1 : decide ((sz : Int) < 1) = false := by simp; omega
          have d2 : decide ((4096 : Int) < (sz : Int)) = true := by simp; omega
          go_wp2_with (with_reducible refine (HNU.out).mono ?_)
          rintro e w' ⟨rfl, rfl⟩
          go_wp2
          exact bodyPost_ret (v := .tuple #[.slice LA k kc, .int .i64 (at_ : Int), .bool true]) (by simp [results, Try.results73, go_sem]) rfl HE.out
      · have d1 : decide ((sz : Int) < 1) = false := by simp; omega
        have d2 : decide ((4096 : Int) < (sz : Int)) = false := by simp; omega
        by_cases hpt : r < 4 + sz
        · have HE := Lib.hid (fra_end HL.out ha false HFR.out (Fr.fr_part (by rw [HDL.out]; exact h4) (by rw [HSZ.out]; exact hbad) (by rw [HDL.out, HSZ.out]; exact hpt)) HP.out HB.out)
          have d3 : decide ((r : Int) - 4 < (sz : Int)) = true := by simp; omega
          have d3' : (r : Int) - 4 < (sz : Int) := by omega
          clear hpt hbad
          go_wp2_with (with_reducible refine (HNU.out).mono ?_)
          rintro e w' ⟨rfl, rfl⟩
          go_wp2
          exact bodyPost_ret (v := .tuple #[.slice LA k kc, .int .i64 (at_ : Int), .bool false]) (by simp [results, Try.results73, go_sem]) rfl HE.out
        · have d3 : decide ((r : Int) - 4 < (sz : Int)) = false := by simp; omega
          have d3' : ¬ (r : Int) - 4 < (sz : Int) := by omega
          have hs5 : ∀ wz, (Instr.slice 22 (.slice A N c) (some (.int .i64 ((at_ : Int) + 4))) (some (.int .i64 ((at_ : Int) + 4 + (sz : Int)))) none).run Try.prog wz = .ok (.slice (frB A c (at_ + 4)) sz (c - (at_ + 4))) wz := fun wz => by
            have := run_midB wz A N c (at_ + 4) sz (by have := HC.out; have := HR.out; omega)
            push_cast at this
            exact this
          have har := ((HA.out.below HB.out).mid (at_ := at_ + 4) (n := sz) (by have := HR.out; omega)).more (B' := wr.heap.size) HB.out.size
          have HTW := Lib.hid (twin_any wr _ _ sz _ _ har (Nat.le_refl _) (by omega))
          have hwh := Fr.fr_whole (l := zs.drop at_) (by rw [HSZ.out]; exact hbad) (by rw [HDL.out, HSZ.out]; omega)
          rw [HSZ.out, List.drop_drop, List.drop_drop] at hwh
          have HWH := Lib.hid hwh
          have hsz1 : 1 ≤ sz := by omega
          have HPT : Hid (4 + sz ≤ r ∧ 1 ≤ sz) := Lib.hid ⟨by omega, hsz1⟩
          have hcn := Fr.fr_count zs
          rw [HFR.out, HWH.out, HL.out] at hcn
          simp only [List.length_append, List.length_map, List.length_cons] at hcn
          have hk24 : (k + 1) * 24 ≤ 140737488355328 := by rw [← HP.out.len]; omega
          have HK := Lib.hid hk24
          clear har hwh hbad hpt hsz1 hcn hk24
          go_wp2_with fail
          with_reducible refine (HNU.out).mono ?_
          rintro e w' ⟨rfl, rfl⟩
          go_wp2_with fail
          with_reducible refine (HTW.out).mono ?_
          rintro e w1 ⟨TA, tc, rfl, ho, hb1⟩
          obtain ⟨g, rfl⟩ := ho.notnone HPT.out.2
          have hov := ho.ownV
          have hgl := hov.lt g (by simp [bkV])
          have bel : Below w1.heap.size w1 (w1.alloc (.cells #[.slice (some ⟨g, 0, none⟩) sz tc] 22)) := (Below.refl _ _).alloc (Nat.le_refl _) _
          have bl : BlkL (w1.alloc (.cells #[.slice (some ⟨g, 0, none⟩) sz tc] 22)) w1.heap.size [.slice (some ⟨g, 0, none⟩) sz tc] := BlkL.new w1 _ _
          have SRC : Hid (SrcV (w1.alloc (.cells #[.slice (some ⟨g, 0, none⟩) sz tc] 22)) (some ⟨w1.heap.size, 0, none⟩) 1 [.slice (some ⟨g, 0, none⟩) sz tc]) :=
            Lib.hid ⟨rfl, (fun e => by cases e), fun ad e j u hu => by cases e; rw [add_litV, Nat.zero_add]; exact bl.cell j u hu, by simp [Value.oneCell']⟩
          have hb1s := hb1.size
          have hbs := HB.out.size
          have rok : RowOk w1 w.heap.size ⟨g, sz, tc, (zs.drop (at_ + 4)).take sz⟩ := ⟨hov.mono hbs, ho.2⟩
          have rok2 : RowOk (w1.alloc (.cells #[.slice (some ⟨g, 0, none⟩) sz tc] 22)) w.heap.size ⟨g, sz, tc, (zs.drop (at_ + 4)).take sz⟩ := rok.off (S := []) (Off.of_below bel) (by simp)
          have hpn := (HP.out.below hb1).below bel
          have hgn : g ∉ blkP LA rs := fun hm => by have := (HP.out.lt _ hm).2; omega
          have HPN := Lib.hid hpn
          have HRO := Lib.hid rok2
          have HGN := Lib.hid hgn
          have HBB : Hid (Below w.heap.size w (w1.alloc (.cells #[.slice (some ⟨g, 0, none⟩) sz tc] 22))) := Lib.hid ((HB.out.trans (hb1.mono hbs)).trans (bel.mono (by omega)))
          clear ho hb1 hov hgl bel bl hb1s hbs rok rok2 hpn hgn
          go_wp2_with (refine wpList_append_a Try.underlying46 hj hjz hj1 hj2 rfl rfl (.tmp 35) (.tmp 45) rfl rfl HPN.out.own (some ⟨w1.heap.size, 0, none⟩) 1 1 _ rfl SRC.out (fun e => by cases e) (by omega) HK.out HBB.out.size ?_)
          intro L2 c2 w2 o2 f2 g2
          have hp2 := HPN.out.push HRO.out HGN.out o2 f2 (fun y hy => by rw [World.size_alloc]; exact g2 y hy)
          have hb2 : Below w.heap.size w w2 := HBB.out.trans (f2.below HBB.out.size fun y hy => (HPN.out.lt y (List.mem_append.2 (.inl hy))).1)
          have HE : Hid (FraI w zs (at_ + (4 + sz)) (.slice L2 (k + 1) c2) w2) := by
            refine Lib.hid ⟨L2, k + 1, c2, _, rfl, ?_, hp2, hb2⟩
            rw [HFR.out, HWH.out]
            simp
          clear hp2 hb2 o2 f2 g2
          go_wp2
          go_roundw
          case rel => exact ⟨at_ + (4 + sz), by push_cast; rfl, by have := HR.out; have := HPT.out; omega, HE.out⟩
          case measure => simp [intOf]; have := HR.out; have := HPT.out; omega
end Go.Proofs.Ytlkkldegbopnpaa
