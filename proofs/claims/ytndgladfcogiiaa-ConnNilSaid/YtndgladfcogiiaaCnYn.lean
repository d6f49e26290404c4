/- The law's call on a nil connection. -/
import Derived.Test.YtndgladfcogiiaaCnAll
import Derived.BigRegion
namespace Go.Proofs.Ytndgladfcogiiaa
open Go.RowKit
set_option maxRecDepth 100000
set_option linter.unusedVariables false

theorem TksA.nil (w : World) : TksA w none 0 0 [] := ⟨⟨0, OwnS.nil _ _ _⟩, by simp⟩
set_option maxHeartbeats 800000 in
theorem call_nil3 (w : World) (A : Option Addr) (n c : Nat) (r : RpV) : Calls Try.prog 55 #[.pointer none, .pointer none, OpA 3 A n c r] w (ValEnd w (.bool true)) := by
  have c0 := (opK w 3 A n c r).cell 0 _ rfl
  have HB := Lib.hid (opBl w 3 A n c r)
  go_enter Try.func55, Try.ntmps55
  go_wp2_with fail
  with_reducible refine (nl_take _).mono ?_
  rintro e w1 ⟨rfl, rfl⟩
  go_wp2_with fail
  with_reducible refine (nd_take _).mono ?_
  rintro e w1 ⟨rfl, rfl⟩
  have HS := Lib.hid (same_any (opW w 3 A n c r) 0 0 none none 0 0 0 0 [] [] true (by simp) (Arg.nil _ _) (Arg.nil _ _))
  go_wp2_with fail
  with_reducible refine (HS.out).mono ?_
  rintro e w1 ⟨rfl, t, rfl⟩
  have HB2 := Lib.hid (below_drewN HB.out t)
  generalize (opW w 3 A n c r).drewN t = w2 at HB2 ⊢
  go_wp2
  go_loopw [119] (fun iv wr => iv = .int .i64 0 ∧ wr = w2) (fun _ _ => 0)
  case atStart => exact ⟨rfl, rfl⟩
  case round =>
    obtain ⟨rfl, hw⟩ := hrel
    have HW := Lib.hid hw
    clear hw
    go_wp2
    go_ret
    rw [HW.out]
    exact ⟨rfl, HB2.out⟩
set_option maxHeartbeats 800000 in
theorem call_nil4 (w : World) (A : Option Addr) (n c : Nat) (r : RpV) : Calls Try.prog 55 #[.pointer none, .pointer none, OpA 4 A n c r] w (ValEnd w (.bool true)) := by
  have c0 := (opK w 4 A n c r).cell 0 _ rfl
  have HB := Lib.hid (opBl w 4 A n c r)
  go_enter Try.func55, Try.ntmps55
  go_wp2_with fail
  with_reducible refine (nl_hang _).mono ?_
  rintro e w1 ⟨rfl, rfl⟩
  go_wp2_with fail
  with_reducible refine (nd_hang _).mono ?_
  rintro e w1 ⟨rfl, rfl⟩
  have HS := Lib.hid (same22_any (opW w 4 A n c r) none none 0 0 0 0 [] [] (TksA.nil _) (TksA.nil _) rfl)
  go_wp2_with fail
  with_reducible refine (HS.out).mono ?_
  rintro e w1 ⟨rfl, t, rfl⟩
  have HB2 := Lib.hid (below_drewN HB.out t)
  generalize (opW w 4 A n c r).drewN t = w2 at HB2 ⊢
  go_wp2
  go_loopw [140] (fun iv wr => iv = .int .i64 0 ∧ wr = w2) (fun _ _ => 0)
  case atStart => exact ⟨rfl, rfl⟩
  case round =>
    obtain ⟨rfl, hw⟩ := hrel
    have HW := Lib.hid hw
    clear hw
    go_wp2
    go_ret
    rw [HW.out]
    exact ⟨rfl, HB2.out⟩
set_option maxHeartbeats 800000 in
theorem call_nil1 (w : World) (A : Option Addr) (n c : Nat) (r : RpV) : Calls Try.prog 55 #[.pointer none, .pointer none, OpA 1 A n c r] w (ValEnd w (.bool true)) := by
  have c0 := (opK w 1 A n c r).cell 0 _ rfl
  have HB := Lib.hid (opBl w 1 A n c r)
  go_enter Try.func55, Try.ntmps55
  go_wp2_with fail
  with_reducible refine (cn_next_nil _).mono ?_
  rintro e w1 ⟨rfl, hb1⟩
  have HB1 := Lib.hid (HB.out.trans (hb1.mono (by simp)))
  have HK1 := Lib.hid (clK w1 0 0 none 0 0 0)
  clear hb1 c0
  go_wp2_with fail
  with_reducible refine (nd_next _).mono ?_
  rintro e w3 ⟨rfl, hb3⟩
  have HB3 := Lib.hid ((HB1.out.alloc HB1.out.size (.cells #[.int .u8 0, .int .i64 0, .slice none 0 0, .int .i64 0] 71)).trans (hb3.mono (by simp; have := HB1.out.size; omega)))
  have hk4 := (HK1.out.below hb3).alloc (.cells #[.int .u8 0, .int .i64 0, .slice none 0 0, .int .i64 0] 71)
  have HB4 := Lib.hid (HB3.out.alloc HB3.out.size (.cells #[.int .u8 0, .int .i64 0, .slice none 0 0, .int .i64 0] 71))
  have q0 := hk4.cell 0 _ rfl
  have q1 := hk4.cell 1 _ rfl
  have q2 := hk4.cell 2 _ rfl
  have q3 := hk4.cell 3 _ rfl
  have ql := hk4.lt
  have r0 := (HK1.out.below hb3).cell 0 _ rfl
  have r1 := (HK1.out.below hb3).cell 1 _ rfl
  have r2 := (HK1.out.below hb3).cell 2 _ rfl
  have r3 := (HK1.out.below hb3).cell 3 _ rfl
  have rl := (HK1.out.below hb3).lt
  have HK4 := Lib.hid hk4
  have HS : Hid (Calls Try.prog 47 #[.agg #[.int .u8 0, .int .i64 0, .slice none 0 0, .int .i64 0], .agg #[.int .u8 0, .int .i64 0, .slice none 0 0, .int .i64 0]] (w3.alloc (.cells #[.int .u8 0, .int .i64 0, .slice none 0 0, .int .i64 0] 71)) (ValEnd (w3.alloc (.cells #[.int .u8 0, .int .i64 0, .slice none 0 0, .int .i64 0] 71)) (.bool true))) :=
    Lib.hid (same21_any _ 0 0 none none 0 0 0 0 ClV.zero ClV.zero true (by decide) (Arg.nil _ _) (Arg.nil _ _) (Nat.zero_le _) (Nat.zero_le _))
  clear hk4 hb3
  go_wp2_with fail
  with_reducible refine (HS.out).mono ?_
  rintro e w5 ⟨rfl, hb5⟩
  have hk5 := HK4.out.below hb5
  have HB5 := Lib.hid (HB4.out.trans (hb5.mono HB4.out.size))
  have s2 := hk5.cell 2 _ rfl
  have sl := hk5.lt
  clear hk5 hb5 q0 q1 q2 q3 ql r0 r1 r2 r3 rl
  go_wp2
  go_loopw [86] (fun iv wr => iv = .int .i64 0 ∧ wr = w5) (fun _ _ => 0)
  case atStart => exact ⟨rfl, rfl⟩
  case round =>
    obtain ⟨rfl, hw⟩ := hrel
    have HW := Lib.hid hw
    clear hw
    go_wp2
    go_ret
    rw [HW.out]
    exact ⟨rfl, HB5.out⟩
set_option maxHeartbeats 1600000 in
theorem call_nil2 (w : World) (A : Option Addr) (n c : Nat) (r : RpV) : Calls Try.prog 55 #[.pointer none, .pointer none, OpA 2 A n c r] w (ValEnd w (.bool true)) := by
  obtain ⟨f, hf⟩ : ∃ f, rpN r = f := ⟨_, rfl⟩
  have hff : (f == f) = true := by simp
  have hk := opK w 2 A n c r
  have c0 := hk.cell 0 _ rfl
  have d2 := hk.drew.cell 2 _ rfl
  have d3 := hk.drew.cell 3 _ rfl
  have d4 := hk.drew.cell 4 _ rfl
  have d5 := hk.drew.cell 5 _ rfl
  have d6 := hk.drew.cell 6 _ rfl
  have d7 := hk.drew.cell 7 _ rfl
  have dl := hk.lt
  have hbd : Below w.heap.size w (opW w 2 A n c r).drew := (opBl w 2 A n c r).drew
  have hkd : BlkL (opW w 2 A n c r).drew w.heap.size (opB 2 A n c r) := hk.drew
  have hp : BlkL (opW w 2 A n c r).drew w.heap.size (opB 2 A n c r) ∧ Below w.heap.size w (opW w 2 A n c r).drew := ⟨hkd, hbd⟩
  have HNL : Hid (∀ wu, BlkL wu w.heap.size (opB 2 A n c r) ∧ Below w.heap.size w wu → Calls Try.prog 63 #[.pointer none, r.val] wu fun e w' => e = .returned (.int .i64 f) ∧ BlkL w' w.heap.size (opB 2 A n c r) ∧ Below w.heap.size w w') := Lib.hid fun wu hp => by
    refine (nl_reply wu r).mono ?_
    rintro e w' ⟨he, hb⟩
    rw [hf] at he
    exact ⟨he, hp.1.below hb, hp.2.trans (hb.mono hp.2.size)⟩
  have HND : Hid (∀ wu, BlkL wu w.heap.size (opB 2 A n c r) ∧ Below w.heap.size w wu → Calls Try.prog 105 #[.pointer none, r.val] wu fun e w' => e = .returned (.int .i64 f) ∧ BlkL w' w.heap.size (opB 2 A n c r) ∧ Below w.heap.size w w') := Lib.hid fun wu hp => by
    refine (nd_reply wu r).mono ?_
    rintro e w' ⟨he, hb⟩
    rw [hf] at he
    exact ⟨he, hp.1.below hb, hp.2.trans (hb.mono hp.2.size)⟩
  clear hk hbd hkd hf
  go_enter Try.func55, Try.ntmps55
  go_wp2_with fail
  go_region_with (first
    | (go_at_call 63; refine (HNL.out _ (by assumption)).mono ?_; rintro e wu ⟨rfl, hpk, hpb⟩; have hp : BlkL wu w.heap.size (opB 2 A n c r) ∧ Below w.heap.size w wu := ⟨hpk, hpb⟩; have d2 := hpk.cell 2 _ rfl; have d3 := hpk.cell 3 _ rfl; have d4 := hpk.cell 4 _ rfl; have d5 := hpk.cell 5 _ rfl; have d6 := hpk.cell 6 _ rfl; have d7 := hpk.cell 7 _ rfl; have dl := hpk.lt)
    | (go_at_call 105; refine (HND.out _ (by assumption)).mono ?_; rintro e wu ⟨rfl, hpk, hpb⟩; have hp : BlkL wu w.heap.size (opB 2 A n c r) ∧ Below w.heap.size w wu := ⟨hpk, hpb⟩; have d2 := hpk.cell 2 _ rfl; have d3 := hpk.cell 3 _ rfl; have d4 := hpk.cell 4 _ rfl; have d5 := hpk.cell 5 _ rfl; have d6 := hpk.cell 6 _ rfl; have d7 := hpk.cell 7 _ rfl; have dl := hpk.lt))
  all_goals
    go_wp2
    go_ret
    exact ⟨rfl, hpb⟩
/-- The loop that changes the bytes. -/
def XorI (w : World) (B : Nat) (F : Option Addr) (n d : Nat) (iv : Value) (wr : World) : Prop :=
  ∃ (k : Nat) (xs : List Nat), k ≤ n ∧ iv = .int .i64 (k : Int) ∧ OwnV wr B F n d (xs.map V8) ∧ (∀ y ∈ xs, y < 256) ∧ Below w.heap.size w wr
theorem V8_setX (xs : List Nat) (k v : Nat) : (xs.map V8).set k (V8 v) = (xs.set k v).map V8 := List.map_set.symm
set_option maxHeartbeats 1600000 in
theorem call_nil0 (w : World) (A : Option Addr) (n c : Nat) (r : RpV) (zs : List Nat) (h : Arg w w.heap.size A n c zs) (hn : n ≤ 140737488355325) : Calls Try.prog 55 #[.pointer none, .pointer none, OpA 0 A n c r] w (ValEnd w (.bool true)) := by
  have hk := opK w 0 A n c r
  have c0 := hk.cell 0 _ rfl
  have c1 := hk.cell 1 _ rfl
  have HB := Lib.hid (opBl w 0 A n c r)
  have HK := Lib.hid hk
  have hA1 : Arg (opW w 0 A n c r) w.heap.size A n c zs := h.below (opBl w 0 A n c r)
  have HSP := Lib.hid (spare_any (opW w 0 A n c r) A n c zs (hA1.more (by simp)) hn)
  have HA := Lib.hid hA1
  clear hk h hA1
  go_enter Try.func55, Try.ntmps55
  go_wp2_with fail
  with_reducible refine (HSP.out).mono ?_
  rintro e w2 ⟨F, d, rfl, ho, hb⟩
  have HB2 := Lib.hid (HB.out.trans (hb.mono (by simp)))
  have HK2 := Lib.hid (HK.out.below hb)
  have HA2 := Lib.hid (HA.out.below (hb.mono (by simp)))
  have HO2 : Hid (OwnB w2 (w.heap.size + 1) F (n + 3) d (zs ++ marks)) := Lib.hid (by simpa using ho)
  have e1 := HK2.out.cell 1 _ rfl
  have el := HK2.out.lt
  clear ho hb HSP HB HK c0 c1
  go_wp2_with fail
  with_reducible refine (cn_feed_nil _ _).mono ?_
  rintro e w3 ⟨rfl, rfl⟩
  have HKP := Lib.hid (kept_any w2 _ _ F A n c d zs HO2.out.arg HA2.out)
  go_wp2_with fail
  with_reducible refine (HKP.out).mono ?_
  rintro e w3 ⟨rfl, t, rfl⟩
  have HB3 := Lib.hid (below_drewN HB2.out t)
  have HK3 := Lib.hid (HK2.out.drewN t)
  have HO3 : Hid (OwnV (w2.drewN t) (w.heap.size + 1) F (n + 3) d ((zs ++ marks).map V8)) := Lib.hid (HO2.out.ownV.below (below_drewN (Below.refl _ _) t))
  have HBY : Hid (∀ y ∈ zs ++ marks, y < 256) := Lib.hid (fun y hy => HO2.out.2 y hy)
  generalize w2.drewN t = w3 at HB3 HK3 HO3 ⊢
  have hcap := HO3.out.cap
  have hle := HO3.out.le
  unfold maxLen at hcap
  clear e1 el HKP HB2 HK2 HO2 HA2
  go_wp2
  go_loopw [44] (fun iv wr => XorI w (w.heap.size + 1) F (n + 3) d iv wr ∧ BlkL wr w.heap.size (opB 0 A n c r)) (fun iv _ => n + 3 - (intOf iv).toNat)
  case atStart => exact ⟨⟨0, zs ++ marks, Nat.zero_le _, rfl, HO3.out, HBY.out, HB3.out⟩, HK3.out⟩
  case round =>
    obtain ⟨⟨k, xs, hkk, rfl, hox, hbx, hbw⟩, hkw⟩ := hrel
    have HBX := Lib.hid hbx
    have HBW := Lib.hid hbw
    have HKW := Lib.hid hkw
    have hsw := hbw.size
    clear hbx hbw
    rcases Nat.lt_or_ge k (n + 3) with h1 | h1
    · obtain ⟨g, off, rfl, hg, hgl, hcg, hfg⟩ := hox.cell (by omega)
      have hlx := hox.len
      rw [List.length_map] at hlx
      have hck : wr.cell? ⟨g, off + k, none⟩ = some (.int .u8 (xs.getD k 0 : Nat)) := hcg k _ (by rw [List.getElem?_map, List.getElem?_eq_getElem (by omega)]; simp [V8, List.getD_eq_getElem?_getD, List.getElem?_eq_getElem (show k < xs.length by omega)])
      have hfk := hfg k h1
      have hx : xs.getD k 0 < 256 := HBX.out _ (by rw [List.getD_eq_getElem?_getD, List.getElem?_eq_getElem (show k < xs.length by omega)]; simp)
      generalize xs.getD k 0 = y at hck hx
      have hx8 : bits .xor .u8 (y : Int) 1 = ((y ^^^ 1 : Nat) : Int) := u8_xor_nat y 1 hx (by omega)
      have hyl : y ^^^ 1 < 2 ^ 8 := Nat.xor_lt_two_pow (by omega) (by omega)
      generalize y ^^^ 1 = y2 at hx8 hyl
      have fo : Off [g] wr (wr.setCell ⟨g, off + k, none⟩ (V8 y2)) := (Off.refl _ _).setCell (p := ⟨g, off + k, none⟩) (by simp) _
      have HO4 := Lib.hid (hox.set k (V8 y2) h1)
      rw [V8_setX] at HO4
      have HK4 := Lib.hid (hkw.off fo (by simp; omega))
      have HB4 := Lib.hid (HBW.out.setCell (p := ⟨g, off + k, none⟩) (by show w.heap.size ≤ g; omega) (V8 y2))
      have HBX2 : Hid (∀ z ∈ xs.set k y2, z < 256) := Lib.hid fun z hz => by
        rcases List.mem_or_eq_of_mem_set hz with h' | h'
        · exact HBX.out z h'
        · omega
      have i0 : (0 : Int) ≤ (k : Int) := by omega
      have i1 : (k : Int) < (n : Int) + 3 := by omega
      clear hox hcg hfg fo hkw
      go_wp2
      go_roundw
      case rel => exact ⟨⟨k + 1, _, by omega, by push_cast; rfl, HO4.out, HBX2.out, HB4.out⟩, HK4.out⟩
      case measure => simp [intOf]; omega
    · obtain rfl : k = n + 3 := by omega
      have e1 := hkw.cell 1 _ rfl
      have el := hkw.lt
      clear hox hkw
      go_wp2_with fail
      with_reducible refine (nd_feed _ _).mono ?_
      rintro e w4 ⟨rfl, rfl⟩
      go_wp2
      go_ret
      exact ⟨rfl, HBW.out⟩
theorem call_nil (w : World) (k : Nat) (A : Option Addr) (n c : Nat) (r : RpV) (zs : List Nat) (h : Arg w w.heap.size A n c zs) (hn : n ≤ 140737488355325) : Calls Try.prog 55 #[.pointer none, .pointer none, OpA k A n c r] w (ValEnd w (.bool true)) := by
  by_cases h0 : k = 0
  · subst h0; exact call_nil0 w A n c r zs h hn
  by_cases h1 : k = 1
  · subst h1; exact call_nil1 w A n c r
  by_cases h2 : k = 2
  · subst h2; exact call_nil2 w A n c r
  by_cases h3 : k = 3
  · subst h3; exact call_nil3 w A n c r
  by_cases h4 : k = 4
  · subst h4; exact call_nil4 w A n c r
  exact call_nil5 w k A n c r h0 h1 h2 h3 h4
set_option maxHeartbeats 1600000 in
theorem connNil_walk (k : Nat) (A : Option Addr) (n c : Nat) (zs : List Nat) (r : RpV) (w : World) (hk : k < 256) (h : Arg w w.heap.size A n c zs) (hsz : c ≤ 140737488351232) : Calls Try.prog 15 #[OpA k A n c r] w (ValEnd w (.bool true)) := by
  have hn := h.le
  have HK := Lib.hid (opK w k A n c r)
  have HB := Lib.hid (opBl w k A n c r)
  have HA := Lib.hid (h.below (opBl w k A n c r))
  clear h
  go_enter Try.func15, Try.ntmps15
  go_wp2_with fail
  with_reducible refine (awake22_any _).mono ?_
  rintro e w1 ⟨rfl, hb⟩
  have HB1 := Lib.hid (HB.out.trans (hb.mono (by simp)))
  have k1 := HK.out.below hb
  have c0 := k1.cell 0 _ rfl
  have c1 := k1.cell 1 _ rfl
  have c2 := k1.cell 2 _ rfl
  have c3 := k1.cell 3 _ rfl
  have c4 := k1.cell 4 _ rfl
  have c5 := k1.cell 5 _ rfl
  have c6 := k1.cell 6 _ rfl
  have c7 := k1.cell 7 _ rfl
  have lk := k1.lt
  have HCN := Lib.hid (call_nil w1 k A n c r zs ((HA.out.below (hb.mono (by simp))).more HB1.out.size) (by omega))
  clear hb k1
  go_wp2_with fail
  with_reducible refine (HCN.out).mono ?_
  rintro e w2 ⟨rfl, hb⟩
  have HB2 := Lib.hid (HB1.out.trans (hb.mono HB1.out.size))
  clear hb c0 c1 c2 c3 c4 c5 c6 c7 lk HCN
  go_wp2_with fail
  with_reducible refine (nl_ledger _).mono ?_
  rintro e w3 ⟨rfl, rfl⟩
  go_wp2_with fail
  with_reducible refine (nl_wait _).mono ?_
  rintro e w3 ⟨rfl, rfl⟩
  go_wp2_with fail
  with_reducible refine (nl_open _).mono ?_
  rintro e w3 ⟨rfl, rfl⟩
  go_wp2
  go_ret
  exact ⟨rfl, HB2.out⟩
end Go.Proofs.Ytndgladfcogiiaa
