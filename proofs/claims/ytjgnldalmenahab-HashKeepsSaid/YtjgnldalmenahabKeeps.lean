/- The law HashKeeps: what is handed in stays as it was, what is answered is new memory. -/
import Derived.Test.YtjgnldalmenahabSpare
import Derived.Test.YtjgnldalmenahabAwake2
namespace Go.Proofs.Ytjgnldalmenahab
open Go.RowKit

section
variable {w w' : World} {B g n c : Nat} {A : Option Addr} {xs zs : List Nat}
theorem OwnB.kept (h : OwnB w B A n c xs) (hg : w.grownBy w' (some g)) (hne : g < B) : OwnB w' B A n c xs :=
  ⟨World.ownsRow.kept h.1 hg (.inr fun e => by have := (World.ownsRow.lt h.1 g e).1; omega), h.2⟩
theorem OwnB.keptLt {S : Nat} (h : OwnB w B A n c xs) (hl : ∀ k, (Value.slice A n c).ownBlock = some k → k < S) (hg : w.grownBy w' (some g)) (hS : S ≤ g) : OwnB w' B A n c xs :=
  ⟨World.ownsRow.kept h.1 hg (.inr fun e => by have := hl g e; omega), h.2⟩
theorem OwnB.head (h : OwnB w B A n c xs) (hn : 0 < n) : ∃ g, A = some ⟨g, 0, none⟩ ∧ B ≤ g ∧ g < w.heap.size := by
  have hlt := World.ownsRow.lt h.1
  rcases h.1.2 with ⟨h1, h2⟩ | ⟨g, cap, cur, h1, hB, hg, _⟩
  · omega
  · simp only [Value.slice.injEq, true_and] at h1
    obtain ⟨rfl, rfl⟩ := h1
    exact ⟨g, rfl, hB, (hlt g rfl).2⟩
theorem OwnB.stored (h : OwnB w B (some ⟨g, 0, none⟩) n c xs) (j v : Nat) (hv : v < 256) :
    OwnB (w.setCell ⟨g, j, none⟩ (V8 v)) B (some ⟨g, 0, none⟩) n c (xs.set j v) ∧ w.grownBy (w.setCell ⟨g, j, none⟩ (V8 v)) (some g) := by
  obtain ⟨h1, h2⟩ := World.ownsRow.stored (w := w) h.1 j (V8 v)
  refine ⟨⟨?_, fun d hd => ?_⟩, h2⟩
  · rw [← List.map_set] at h1; exact h1
  · rcases List.mem_or_eq_of_mem_set hd with hd | rfl
    · exact h.2 d hd
    · exact hv
theorem OwnB.frozen (h : OwnB w B (some ⟨g, 0, none⟩) n c xs) (k : Nat) : w.frozen? ⟨g, k, none⟩ = false := World.ownsRow.frozenAt h.1 k
theorem OwnB.cell (h : OwnB w B (some ⟨g, 0, none⟩) n c xs) {k : Nat} (hk : k < n) : w.cell? ⟨g, k, none⟩ = some (V8 (xs.getD k 0)) := by
  have := World.ownsRow.cellAt (w := w) h.1 k (by omega)
  have hl := h.len
  rw [this, List.getElem?_map, List.getElem?_eq_getElem (by omega)]
  simp [V8, List.getD_eq_getElem?_getD, hl, hk]
end

def K1 (w : World) (S2 S3 S4 ga n ca cb cp : Nat) (Bb P : Option Addr) (zs : List Nat) (kv : Value) (wr : World) : Prop :=
  ∃ (i : Nat) (xs : List Nat), kv = .int .i64 (i : Int) ∧ OwnB wr S2 (some ⟨ga, 0, none⟩) (n + 1) ca xs ∧ OwnB wr S3 Bb (n + 1) cb (5 :: zs) ∧ OwnB wr S4 P n cp zs ∧ Below S2 w wr ∧ i ≤ n + 1
def K2 (w : World) (S2 S3 S4 n cb cp : Nat) (Bb P : Option Addr) (zs : List Nat) (kv : Value) (wr : World) : Prop :=
  ∃ (i : Nat) (ys : List Nat), kv = .int .i64 (i : Int) ∧ OwnB wr S4 P n cp ys ∧ OwnB wr S3 Bb (n + 1) cb (5 :: zs) ∧ Below S2 w wr ∧ i ≤ n

abbrev blk89 : Obj := .cells #[.int .u8 8, .int .u8 9] 5
theorem lit_89 (w : World) : Arg (w.alloc blk89) (w.heap.size + 1) (some ⟨w.heap.size, 0, none⟩) 2 2 [8, 9] := lit2 w 8 9 (0, 0) (by omega) (by omega)

set_option maxRecDepth 100000 in
set_option maxHeartbeats 1600000 in
theorem keeps_long (w : World) (K : Option Addr) (n c : Nat) (zs : List Nat) (HK : Hid (Arg w w.heap.size K n c zs)) (hn : n ≤ 140737488355325) (hlong : 255 < n) :
    Calls Try.prog 3 #[.slice K n c] w fun e w' => e = .returned (.bool true) ∧ Below w.heap.size w w' := by
  go_enter Try.func3, Try.ntmps3
  go_wp2_with fail
  refine (awake2_any _).mono ?_
  rintro e w1 ⟨rfl, hb1⟩
  have HB1 := Lib.hid hb1
  have HK1 := Lib.hid ((HK.out.below hb1).more hb1.size)
  clear hb1
  go_wp2_with fail
  refine (spare_any _ _ n c zs HK1.out hn).mono ?_
  rintro e w2 ⟨Fl, d, rfl, hf, hb2⟩
  have HB2 := Lib.hid (HB1.out.trans (hb2.mono HB1.out.size))
  have HK2 := Lib.hid ((HK1.out.below hb2).more hb2.size)
  have HF2 := Lib.hid hf.arg
  have htk := hf.arg.take (k := n) (by omega)
  have hkl := HK.out.len
  rw [← hkl, List.take_left, hkl] at htk
  have HS2 := Lib.hid htk
  have hwsz := HB2.out.size
  clear hb2 hf htk hkl HB1 HK1
  go_wp2_with fail
  refine (ident_long _ 5 Fl n d (by omega) (by omega) hlong).mono ?_
  rintro e w3 ⟨rfl, rfl⟩
  go_wp2_with fail
  refine (ident_long _ 5 Fl n d (by omega) (by omega) hlong).mono ?_
  rintro e w3 ⟨rfl, rfl⟩
  go_wp2_with fail
  refine (parts_empty _ none 0).mono ?_
  rintro e w3 ⟨rfl, rfl⟩
  go_wp2_with fail
  refine (hsum_any _ _ _ _ _ _ HS2.out).mono ?_
  rintro e w3 ⟨rfl, rfl⟩
  go_wp2_with fail
  refine (shard_2 _ _ _ _ _ _ HS2.out).mono ?_
  rintro e w3 ⟨rfl, rfl⟩
  go_wp2_with fail
  refine (order_any _ _ 0 _ none n d 0 0 zs [] HS2.out (Arg.nil _ _)).mono ?_
  rintro e w3 ⟨rfl, rfl⟩
  go_wp2_with fail
  refine (kept_any _ _ _ _ _ n c d zs HF2.out HK2.out).mono ?_
  rintro e w3 ⟨rfl, t, rfl⟩
  have q1 : decide ((n : Int) ≤ 255) = false := decide_eq_false (by omega)
  go_wp2
  go_ret
  exact ⟨rfl, HB2.out.trans (below_drews (Below.refl _ _) t)⟩

set_option maxRecDepth 100000 in
set_option maxHeartbeats 3200000 in
theorem keeps_ok (w : World) (K : Option Addr) (n c : Nat) (zs : List Nat) (HK : Hid (Arg w w.heap.size K n c zs)) (hn : n ≤ 255) :
    Calls Try.prog 3 #[.slice K n c] w fun e w' => e = .returned (.bool true) ∧ Below w.heap.size w w' := by
  obtain ⟨i0, hi, hz0, hz1, hz2⟩ := info_parts u8_info
  go_enter Try.func3, Try.ntmps3
  go_wp2_with fail
  refine (awake2_any _).mono ?_
  rintro e w1 ⟨rfl, hb1⟩
  have HB1 := Lib.hid hb1
  have HK1 := Lib.hid ((HK.out.below hb1).more hb1.size)
  clear hb1
  go_wp2_with fail
  refine (spare_any _ _ n c zs HK1.out (by omega)).mono ?_
  rintro e w2 ⟨Fl, d, rfl, hf, hb2⟩
  have HB2 := Lib.hid (HB1.out.trans (hb2.mono HB1.out.size))
  have HK2 := Lib.hid ((HK1.out.below hb2).more hb2.size)
  have HF2 := Lib.hid hf.arg
  have htk := hf.arg.take (k := n) (by omega)
  have hkl := HK.out.len
  rw [← hkl, List.take_left, hkl] at htk
  have HS2 := Lib.hid htk
  have hwsz := HB2.out.size
  clear hb2 hf htk hkl HB1 HK1
  go_wp2_with fail
  refine (ident_ok _ _ Fl 5 n d zs HS2.out (Nat.le_refl _) (by omega) hn).mono ?_
  rintro e w3 ⟨Aa, ca, rfl, ha, hb3⟩
  have halt := fun k e => (World.ownsRow.lt ha.1 k e).2
  have HAL := Lib.hid halt
  clear halt
  have HA3 := Lib.hid ha
  have HB3 := Lib.hid hb3
  have HS3 := Lib.hid (HS2.out.below hb3)
  have hs3 := hb3.size
  clear ha hb3
  go_wp2_with fail
  refine (ident_ok _ _ Fl 5 n d zs HS3.out hs3 (by omega) hn).mono ?_
  rintro e w4 ⟨Ab, cb, rfl, hbb, hb4⟩
  have hblt := fun k e => (World.ownsRow.lt hbb.1 k e).2
  have HBL := Lib.hid hblt
  have HBb4 := Lib.hid hbb
  have HA4 := Lib.hid (HA3.out.below hb4)
  have HB4 := Lib.hid (HB3.out.trans (hb4.mono hs3))
  have hs4 := hb4.size
  clear hbb hb4 hblt
  go_wp2_with fail
  refine (parts_ok _ _ Aa n ca 5 zs HA4.out.arg (Nat.le_refl _) (by omega) hn).mono ?_
  rintro e w5 ⟨Ap, cp, rfl, hp, hb5⟩
  have HP5 := Lib.hid hp
  have HA5 := Lib.hid (HA4.out.below hb5)
  have HBb5 := Lib.hid (HBb4.out.below hb5)
  have HB5 := Lib.hid (HB4.out.trans (hb5.mono (by omega)))
  have hs5 := hb5.size
  have HS5 := Lib.hid (HS2.out.below HB5.out)
  have HK5 := Lib.hid (HK2.out.below HB5.out)
  have HF5 := Lib.hid (HF2.out.below HB5.out)
  clear hp hb5 HA3 HA4 HBb4 HB3 HB4 HS3
  go_wp2_with fail
  refine (hsum_any _ _ _ _ _ _ HS5.out).mono ?_
  rintro e w6 ⟨rfl, rfl⟩
  go_wp2_with fail
  refine (shard_2 _ _ _ _ _ _ HS5.out).mono ?_
  rintro e w6 ⟨rfl, rfl⟩
  go_wp2_with fail
  refine (order_any _ _ _ _ _ _ _ _ _ _ _ HS5.out HA5.out.arg).mono ?_
  rintro e w6 ⟨rfl, rfl⟩
  go_wp2_with fail
  refine (kept_any _ _ _ _ _ n c d zs HF5.out HK5.out).mono ?_
  rintro e w6 ⟨rfl, t, hw6⟩
  have HA6 : Hid (OwnB w6 w2.heap.size Aa (n + 1) ca (5 :: zs)) := by rw [hw6]; exact HA5.out.drewN t
  have HBb6 : Hid (OwnB w6 w3.heap.size Ab (n + 1) cb (5 :: zs)) := by rw [hw6]; exact HBb5.out.drewN t
  have HP6 : Hid (OwnB w6 w4.heap.size Ap n cp zs) := by rw [hw6]; exact HP5.out.drewN t
  have HB6 : Hid (Below w2.heap.size w2 w6) := by rw [hw6]; exact below_drews HB5.out t
  clear hw6 HA5 HBb5 HP5 HB5 HS5 HK5 HF5
  obtain ⟨ga, hga, hga1, hga2⟩ := HA6.out.head (by omega)
  have hgalt : ga < w3.heap.size := by
    have e := HAL.out ga (by rw [hga]; rfl)
    exact e
  subst hga
  have q1 : decide ((n : Int) ≤ 255) = true := decide_eq_true (by omega)
  go_wp2
  go_loopw [67] (fun kv wr => K1 w2 w2.heap.size w3.heap.size w4.heap.size ga n ca cb cp Ab Ap zs kv wr) (fun kv _ => n + 1 - (intOf kv).toNat)
  case atStart => exact ⟨0, _, rfl, HA6.out, HBb6.out, HP6.out, HB6.out, by omega⟩
  case round =>
    obtain ⟨i, xs, rfl, hA, hBb, hP, hbel, hin⟩ := hrel
    clear HA6 HBb6 HP6 HB6
    obtain ⟨wo, rfl⟩ : ∃ wo : World, wo = wr := ⟨_, rfl⟩
    rcases Nat.lt_or_ge i (n + 1) with h1 | h1
    · have hci := hA.cell (k := i) h1
      have hfi := hA.frozen i
      obtain ⟨hst, hgr⟩ := hA.stored i 7 (by omega)
      have HST := Lib.hid hst
      have HBb' := Lib.hid (hBb.kept hgr hgalt)
      have HP' := Lib.hid (hP.kept hgr (by omega))
      have HBE' := Lib.hid (hbel.setCell (p := ⟨ga, i, none⟩) hga1 (V8 7))
      clear hA hBb hP hbel hst hgr
      generalize xs.getD i 0 = x at hci
      go_wp2
      go_roundw
      case rel => exact ⟨i + 1, _, by go_num, HST.out, HBb'.out, HP'.out, HBE'.out, by omega⟩
      case measure => simp [intOf]; omega
    · obtain rfl : i = n + 1 := by omega
      have hal := (Below.refl wo.heap.size wo).alloc (Nat.le_refl _) blk89
      have HA7 := Lib.hid (hA.below hal)
      have HBb7 := Lib.hid (hBb.below hal)
      have HP7 := Lib.hid (hP.below hal)
      have hsz7 := hbel.size
      have HBE7 := Lib.hid (hbel.alloc hsz7 blk89)
      have HX := Lib.hid (lit_89 wo)
      clear hA hBb hP hbel hal
      go_wp2_with (at_builtin; refine wpList_append_own _ rfl (.tmp 74) (.tmp 75) 22 rfl w2.heap.size 5 i0 (.int .u8 0) 1 1 Try.underlying22 hi hz0 hz1 hz2 rfl (by decide) _ (n + 1) _ rfl HA7.out.1 ⟨wo.heap.size, 0, none⟩ 2 2 ([8, 9].map V8) rfl rfl HX.out.cells (bytes_oneCell _) ?c3 ?c4 ?c5 ?_)
      case c3 => unfold maxLen; omega
      case c4 => omega
      case c5 => simp; omega
      intro v1 w8 hown8 hgrow8 _
      have hv8 : ∃ A8 c8, v1 = .slice A8 (n + 1 + 2) c8 := by
        rcases hown8.2 with ⟨_, h2⟩ | ⟨g, cap, cur, h1, _⟩
        · omega
        · exact ⟨_, _, h1⟩
      have HBb8 := Lib.hid (HBb7.out.kept (g := ga) hgrow8 hgalt)
      have HP8 := Lib.hid (HP7.out.kept (g := ga) hgrow8 (by omega))
      have HBE8 := Lib.hid (HBE7.out.grown hgrow8 (by simp; omega) (fun k hk => by have e : ga = k := (by simpa [Value.ownBlock] using hk); omega))
      obtain ⟨A8, c8, rfl⟩ := hv8
      clear hown8 hgrow8 HA7 HBb7 HP7 HBE7 HX
      go_wp2
      go_loopw [79] (fun kv wr => K2 w2 w2.heap.size w3.heap.size w4.heap.size n cb cp Ab Ap zs kv wr) (fun kv _ => n - (intOf kv).toNat)
      case atStart => exact ⟨0, _, rfl, HP8.out, HBb8.out, HBE8.out, by omega⟩
      case round =>
        obtain ⟨i, ys, rfl, hP, hBb, hbel, hin2⟩ := hrel
        clear HBb8 HP8 HBE8
        rcases Nat.lt_or_ge i n with h2 | h2
        · obtain ⟨gp, rfl, hgp1, _⟩ := hP.head (by omega)
          have hci := hP.cell (k := i) h2
          have hfi := hP.frozen i
          have hlt := hP.arg.lt i
          have hx8 : bits .xor .u8 ((ys.getD i 0 : Nat) : Int) 1 = ((ys.getD i 0 ^^^ 1 : Nat) : Int) := u8_xor_nat _ 1 hlt (by omega)
          have hxl : ys.getD i 0 ^^^ 1 < 2 ^ 8 := Nat.xor_lt_two_pow (by omega) (by omega)
          obtain ⟨hst, hgr⟩ := hP.stored i (ys.getD i 0 ^^^ 1) (by omega)
          have HST := Lib.hid hst
          have HBb' := Lib.hid (hBb.keptLt HBL.out hgr hgp1)
          have HBE' := Lib.hid (hbel.setCell (p := ⟨gp, i, none⟩) (show w2.heap.size ≤ gp by omega) (V8 (ys.getD i 0 ^^^ 1)))
          clear hP hBb hbel hst hgr
          generalize ys.getD i 0 ^^^ 1 = z at *
          generalize ys.getD i 0 = x at *
          go_wp2
          go_roundw
          case rel => exact ⟨i + 1, _, by go_num, HST.out, HBb'.out, HBE'.out, by omega⟩
          case measure => simp [intOf]; omega
        · obtain rfl : i = n := by omega
          have HK9 := Lib.hid (HK2.out.below hbel)
          have HF9 := Lib.hid (HF2.out.below hbel)
          have HBE9 := Lib.hid hbel
          have hbarg := hBb.arg
          have hbc := hbarg.le
          have hcut := hbarg.from_ (k := 1) (by omega)
          have HCUT := Lib.hid hcut
          obtain ⟨gb, rfl, _, _⟩ := hBb.head (by omega)
          have hcb := hBb.cell (k := 0) (by omega)
          have hcb0 : wr.cell? ⟨gb, 0, none⟩ = some (.int .u8 5) := hcb
          clear hP hBb hbel hbarg hcut hcb
          by_cases hc1 : cb = 1
          · subst hc1
            obtain rfl : i = 0 := by omega
            have hcut := HCUT.out
            rw [if_pos rfl] at hcut
            have hc2 : Arg wr wr.heap.size (some ⟨gb, 0, none⟩) 0 0 zs := by simpa using hcut
            have HC2 := Lib.hid hc2
            clear hcut HCUT hc2
            go_wp2_with fail
            refine (same_any _ _ _ _ _ _ _ _ _ zs zs true (by simp) HC2.out HK9.out).mono ?_
            rintro e w9 ⟨rfl, t9, rfl⟩
            go_wp2_with fail
            refine (kept_any _ _ _ _ _ 0 c d zs (HF9.out.drewN t9) (HK9.out.drewN t9)).mono ?_
            rintro e w10 ⟨rfl, t10, rfl⟩
            go_wp2
            go_ret
            exact ⟨rfl, HB2.out.trans ((below_drews HBE9.out _).mono (by omega))⟩
          · have hcut := HCUT.out
            rw [if_neg hc1] at hcut
            have hc2 : Arg wr wr.heap.size (some ⟨gb, 1, none⟩) i (cb - 1) zs := by simpa [Addr.add] using hcut
            have HC2 := Lib.hid hc2
            clear hcut HCUT hc2
            go_wp2_with fail
            refine (same_any _ _ _ _ _ _ _ _ _ zs zs true (by simp) HC2.out HK9.out).mono ?_
            rintro e w9 ⟨rfl, t9, rfl⟩
            go_wp2_with fail
            refine (kept_any _ _ _ _ _ i c d zs (HF9.out.drewN t9) (HK9.out.drewN t9)).mono ?_
            rintro e w10 ⟨rfl, t10, rfl⟩
            go_wp2
            go_ret
            exact ⟨rfl, HB2.out.trans ((below_drews HBE9.out _).mono (by omega))⟩

theorem hashKeeps_walk (K : Option Addr) (n c : Nat) (zs : List Nat) (w : World) (hK : Arg w w.heap.size K n c zs) (hc : c ≤ 140737488351232) :
    Calls Try.prog 3 #[.slice K n c] w fun e w' => e = .returned (.bool true) ∧ Below w.heap.size w w' := by
  have hl := hK.le
  rcases Nat.lt_or_ge 255 n with h | h
  · exact keeps_long w K n c zs hK (by omega) h
  · exact keeps_ok w K n c zs hK h

end Go.Proofs.Ytjgnldalmenahab
