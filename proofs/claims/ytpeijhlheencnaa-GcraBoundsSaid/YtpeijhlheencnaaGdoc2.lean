/- The document's Left and Wait, by halving. -/
import Derived.Test.YtpeijhlheencnaaGdoc
import Derived.Test.YtpeijhlheencnaaGcraM2
namespace Go.Proofs.Ytpeijhlheencnaa
open Go.RowKit
set_option maxRecDepth 100000

def HalfInv (w : World) (T Tau L : Nat) (lo hi : Value) (wr : World) : Prop :=
  ∃ a b : Nat, lo = .int .i64 (a : Int) ∧ hi = .int .i64 (b : Int) ∧ a ≤ L ∧ L ≤ b ∧ b ≤ 4611686018427387903 ∧ BlkL wr w.heap.size [.int .i64 (T : Int), .int .i64 (Tau : Int)] ∧ Below w.heap.size w wr

set_option maxHeartbeats 1600000 in
theorem left5_any (w : World) {T Tau tat now : Nat} (h1 : 1 ≤ T) (h2 : T ≤ 4611686018427387903) (h3 : Tau ≤ 4611686018427387903) (h4 : tat ≤ 4611686018427387903) (h5 : now ≤ 4611686018427387903) :
    Calls Try.prog 49 #[.agg #[.int .i64 (T : Int), .int .i64 (Tau : Int)], .int .i64 (tat : Int), .int .i64 (now : Int)] w (ValEnd w (.int .i64 ((leftV T Tau tat now : Nat) : Int))) := by
  have HG := Lib.hid (fun n w (h6 : n ≤ 4611686018427387903) => granted5_any w (n := n) h1 h2 h3 h4 h5 h6)
  have hL := leftV_le T Tau tat now
  have HD : Hid (∀ n, grB T Tau tat now n = decide (n ≤ leftV T Tau tat now)) := Lib.hid (fun n => rfl)
  have HL := Lib.hid hL
  generalize leftV T Tau tat now = L at *
  clear h1 h2 h3 h4 h5 hL
  go_enter Try.func49, Try.ntmps49
  go_wp2
  go_loopw [7, 8] (fun lo hi wr => HalfInv w T Tau L lo hi wr) (fun lo hi _ => (intOf hi - intOf lo).toNat)
  case atStart => exact ⟨0, 4611686018427387903, rfl, rfl, Nat.zero_le _, HL.out, Nat.le_refl _, BlkL.new _ _ _, (Below.refl _ _).alloc (Nat.le_refl _) _⟩
  case round =>
    obtain ⟨a, b, rfl, rfl, ha, hb, hM, bl, hbw⟩ := hrel
    have BL := Lib.hid bl
    have HBW := Lib.hid hbw
    have c0 := bl.cell 0 _ rfl
    have c1 := bl.cell 1 _ rfl
    clear bl hbw
    rcases Nat.lt_or_ge a b with hab | hab
    · obtain ⟨c, hc⟩ : ∃ c : Nat, b - a = c := ⟨_, rfl⟩
      obtain ⟨d, hd⟩ : ∃ d : Nat, c / 2 = d := ⟨_, rfl⟩
      obtain ⟨n, hn⟩ : ∃ n : Nat, b - d = n := ⟨_, rfl⟩
      have q : decide ((a : Int) < (b : Int)) = true := decide_eq_true (by omega)
      have e0 : (b : Int) - (a : Int) = (c : Int) := by omega
      have e1 : (c : Int) / 2 = (d : Int) := by omega
      have e2 : (b : Int) - (d : Int) = (n : Int) := by omega
      have k0 : (0 : Int) ≤ c := by omega
      have k1 : (c : Int) ≤ 4611686018427387903 := by omega
      have k2 : (n : Int) ≤ 4611686018427387903 := by omega
      have k3 : (1 : Int) ≤ n := by omega
      have HF := Lib.hid (show a < n ∧ n ≤ b ∧ a ≤ L ∧ L ≤ b ∧ b ≤ 4611686018427387903 ∧ (n : Int) ≤ 4611686018427387903 by omega)
      have HGn := Lib.hid (fun w => HG.out n w (by omega))
      have hgn := HD.out n
      clear hc hd hn ha hb hM
      rcases hg : decide (n ≤ L) with _ | _
      · rw [hg] at hgn
        rw [hgn] at HGn
        have HLe := Lib.hid (of_decide_eq_false hg)
        clear hgn hg
        go_wp2_with fail
        with_reducible refine (HGn.out _).mono ?_
        rintro e w1 ⟨rfl, hb⟩
        have HR := Lib.hid (show _ ∧ _ from ⟨BL.out.below hb, HBW.out.trans (hb.mono HBW.out.size)⟩)
        clear hb c0 c1
        go_wp2
        go_roundw
        case rel => exact ⟨a, n - 1, rfl, by rw [show ((n - 1 : Nat) : Int) = (n : Int) - 1 by omega], by have := HF.out; omega, by have := HF.out; have := HLe.out; omega, by have := HF.out; omega, HR.out.1, HR.out.2⟩
        case measure => have := HF.out; simp [intOf]; omega
      · rw [hg] at hgn
        rw [hgn] at HGn
        have HLe := Lib.hid (of_decide_eq_true hg)
        clear hgn hg
        go_wp2_with fail
        with_reducible refine (HGn.out _).mono ?_
        rintro e w1 ⟨rfl, hb⟩
        have HR := Lib.hid (show _ ∧ _ from ⟨BL.out.below hb, HBW.out.trans (hb.mono HBW.out.size)⟩)
        clear hb c0 c1
        go_wp2
        go_roundw
        case rel => exact ⟨n, b, rfl, rfl, by have := HLe.out; omega, by have := HF.out; omega, by have := HF.out; omega, HR.out.1, HR.out.2⟩
        case measure => have := HF.out; simp [intOf]; omega
    · obtain rfl : a = L := by omega
      have q : decide ((a : Int) < (b : Int)) = false := decide_eq_false (by omega)
      go_wp2
      go_ret
      exact ⟨rfl, HBW.out⟩

def WaitInv (w : World) (T Tau W H : Nat) (lo hi : Value) (wr : World) : Prop :=
  ∃ a b : Nat, lo = .int .i64 (a : Int) ∧ hi = .int .i64 (b : Int) ∧ a ≤ W ∧ W ≤ b ∧ b ≤ H ∧ BlkL wr w.heap.size [.int .i64 (T : Int), .int .i64 (Tau : Int)] ∧ Below w.heap.size w wr

set_option maxHeartbeats 1600000 in
theorem wait5_any (w : World) {T Tau tat now n : Nat} (h1 : 1 ≤ T) (h2 : T ≤ 4611686018427387903) (h3 : Tau ≤ 4611686018427387903) (h4 : tat ≤ 4611686018427387903) (h5 : now ≤ 4611686018427387903) (h6 : n ≤ 4611686018427387903) (hg : grB T Tau tat now n = false) :
    Calls Try.prog 48 #[.agg #[.int .i64 (T : Int), .int .i64 (Tau : Int)], .int .i64 (tat : Int), .int .i64 (now : Int), .int .i64 (n : Int)] w (ValEnd w (.int .i64 ((waitV T Tau tat now n : Nat) : Int))) := by
  have HG := Lib.hid (fun x w (h5 : x ≤ 4611686018427387903) => granted5_any w (now := x) h1 h2 h3 h4 h5 h6)
  have hm : (if now < tat then (tat : Int) else (now : Int)) = ((max now tat : Nat) : Int) := by split <;> omega
  rcases hgm : grB T Tau tat (max now tat) n with _ | _
  · have HV := Lib.hid (wait_none h1 h4 h5 hgm)
    have HG1 := Lib.hid (fun w => HG.out (max now tat) w (by omega))
    rw [hgm] at HG1
    generalize max now tat = m at *
    clear hg hgm h1 h2 h3 h4 h5 h6
    go_enter Try.func48, Try.ntmps48
    go_wp2_with fail
    with_reducible refine (HG1.out _).mono ?_
    rintro e w1 ⟨rfl, hb⟩
    have HB1 := Lib.hid (((Below.refl w.heap.size w).alloc (Nat.le_refl _) _).trans (hb.mono (by simp)))
    clear hb
    go_wp2
    go_ret
    exact ⟨by rw [HV.out]; rfl, HB1.out⟩
  · obtain ⟨hw1, hw2⟩ := wait_some h1 h4 h5 hgm hg
    have HG1 := Lib.hid (fun w => HG.out (max now tat) w (by omega))
    rw [hgm] at HG1
    have hmn : now ≤ max now tat := by omega
    have hml : max now tat ≤ 4611686018427387903 := by omega
    generalize max now tat = m at *
    generalize waitV T Tau tat now n = W at *
    obtain ⟨H, hH⟩ : ∃ H, m - now = H := ⟨_, rfl⟩
    rw [hH] at hw1 hw2
    have HD := Lib.hid hw2
    have HW := Lib.hid hw1
    have HN := Lib.hid (show now + H ≤ 4611686018427387903 by omega)
    have ez : (m : Int) - (now : Int) = (H : Int) := by omega
    have kn : (now : Int) ≤ 4611686018427387903 := by omega
    clear hg hgm h1 h2 h3 h4 h5 h6 hw1 hw2 hH hmn
    go_enter Try.func48, Try.ntmps48
    go_wp2_with fail
    with_reducible refine (HG1.out _).mono ?_
    rintro e w1 ⟨rfl, hb⟩
    have HB1 := Lib.hid (((Below.refl w.heap.size w).alloc (Nat.le_refl _) _).trans (hb.mono (by simp)))
    have HB0 := Lib.hid ((BlkL.new w [.int .i64 (T : Int), .int .i64 (Tau : Int)] 23).below hb)
    clear hb
    go_wp2
    go_loopw [9, 10] (fun lo hi wr => WaitInv w T Tau W H lo hi wr) (fun lo hi _ => (intOf hi - intOf lo).toNat)
    case atStart => exact ⟨0, H, rfl, rfl, Nat.zero_le _, HW.out, Nat.le_refl _, HB0.out, HB1.out⟩
    case round =>
      obtain ⟨a, b, rfl, rfl, ha, hb, hM, bl, hbw⟩ := hrel
      have BL := Lib.hid bl
      have HBW := Lib.hid hbw
      have c0 := bl.cell 0 _ rfl
      have c1 := bl.cell 1 _ rfl
      clear bl hbw
      have hn0 := HN.out
      rcases Nat.lt_or_ge a b with hab | hab
      · obtain ⟨c, hc⟩ : ∃ c : Nat, b - a = c := ⟨_, rfl⟩
        obtain ⟨d, hd⟩ : ∃ d : Nat, c / 2 = d := ⟨_, rfl⟩
        obtain ⟨x, hx⟩ : ∃ x : Nat, a + d = x := ⟨_, rfl⟩
        have q : decide ((a : Int) < (b : Int)) = true := decide_eq_true (by omega)
        have e0 : (b : Int) - (a : Int) = (c : Int) := by omega
        have e1 : (c : Int) / 2 = (d : Int) := by omega
        have e2 : (a : Int) + (d : Int) = (x : Int) := by omega
        have k0 : (0 : Int) ≤ c := by omega
        have k1 : (c : Int) ≤ 4611686018427387903 := by omega
        have k2 : (x : Int) ≤ 4611686018427387903 := by omega
        have k3 : (a : Int) ≤ 4611686018427387903 := by omega
        have k4 : (d : Int) ≤ 4611686018427387903 := by omega
        have HF := Lib.hid (show a ≤ x ∧ x < b ∧ a ≤ W ∧ W ≤ b ∧ b ≤ H by omega)
        have HGn := Lib.hid (fun w => HG.out (now + x) w (by omega))
        have hgn := HD.out x (by omega)
        rw [Int.natCast_add] at HGn
        clear hc hd hx ha hb hM hn0
        rcases hg : decide (W ≤ x) with _ | _
        · rw [hg] at hgn
          rw [hgn] at HGn
          have HLe := Lib.hid (of_decide_eq_false hg)
          clear hgn hg
          go_wp2_with fail
          with_reducible refine (HGn.out _).mono ?_
          rintro e w1 ⟨rfl, hb⟩
          have HR := Lib.hid (show _ ∧ _ from ⟨BL.out.below hb, HBW.out.trans (hb.mono HBW.out.size)⟩)
          clear hb c0 c1
          go_wp2
          go_roundw
          case rel => exact ⟨x + 1, b, by go_num, rfl, by have := HLe.out; omega, by have := HF.out; omega, by have := HF.out; omega, HR.out.1, HR.out.2⟩
          case measure => have := HF.out; simp [intOf]; omega
        · rw [hg] at hgn
          rw [hgn] at HGn
          have HLe := Lib.hid (of_decide_eq_true hg)
          clear hgn hg
          go_wp2_with fail
          with_reducible refine (HGn.out _).mono ?_
          rintro e w1 ⟨rfl, hb⟩
          have HR := Lib.hid (show _ ∧ _ from ⟨BL.out.below hb, HBW.out.trans (hb.mono HBW.out.size)⟩)
          clear hb c0 c1
          go_wp2
          go_roundw
          case rel => exact ⟨a, x, rfl, rfl, by have := HF.out; omega, by have := HLe.out; omega, by have := HF.out; omega, HR.out.1, HR.out.2⟩
          case measure => have := HF.out; simp [intOf]; omega
      · obtain rfl : a = W := by omega
        have q : decide ((a : Int) < (b : Int)) = false := decide_eq_false (by omega)
        go_wp2
        go_ret
        exact ⟨rfl, HBW.out⟩
end Go.Proofs.Ytpeijhlheencnaa
