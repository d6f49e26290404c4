/- Contracts: keyed, allow, release. -/
import Derived.Test.YtndgladfcogiiaaWrG
import Derived.Deep.QuietTactic
import Derived.BigQuiet
namespace Go.Proofs.Ytndgladfcogiiaa
open Go.RowKit
set_option maxRecDepth 100000
set_option linter.unusedVariables false

abbrev clB (o p : Int) (A : Option Addr) (n c : Nat) (s : Int) : List Value := [.int .u8 o, .int .i64 p, .slice A n c, .int .i64 s]
abbrev ClA (o p : Int) (A : Option Addr) (n c : Nat) (s : Int) : Value := .agg #[.int .u8 o, .int .i64 p, .slice A n c, .int .i64 s]
abbrev clW (w : World) (o p : Int) (A : Option Addr) (n c : Nat) (s : Int) : World := w.alloc (.cells #[.int .u8 o, .int .i64 p, .slice A n c, .int .i64 s] 71)
theorem clK (w : World) (o p : Int) (A : Option Addr) (n c : Nat) (s : Int) : BlkL (clW w o p A n c s) w.heap.size (clB o p A n c s) := BlkL.new w _ _
theorem clBl (w : World) (o p : Int) (A : Option Addr) (n c : Nat) (s : Int) : Below w.heap.size w (clW w o p A n c s) := (Below.refl _ _).alloc (Nat.le_refl _) _

theorem keyed_bad (w : World) (o p s : Int) (A : Option Addr) (n c : Nat) (hp : p < 0 ∨ 32 ≤ p) : Calls Try.prog 93 #[ClA o p A n c s] w (ValEnd w (.tuple #[.slice none 0 0, .int .i64 1])) := by
  have K := clK w o p A n c s
  have HB := Lib.hid (clBl w o p A n c s)
  have c1 := K.cell 1 _ rfl
  have c2 := K.cell 2 _ rfl
  have HC := Lib.hid (ident_arg (clW w o p A n c s) p A n c hp)
  clear K hp
  go_enter Try.func93, Try.ntmps93
  go_wp2_with (with_reducible refine (HC.out).mono ?_)
  rintro e w1 ⟨rfl, rfl⟩
  go_wp2
  go_ret2
  exact ⟨rfl, HB.out⟩
theorem keyed_long (w : World) (o p s : Int) (A : Option Addr) (n c : Nat) (h0 : 0 ≤ p) (h1 : p < 32) (hn : 255 < n) : Calls Try.prog 93 #[ClA o p A n c s] w (ValEnd w (.tuple #[.slice none 0 0, .int .i64 2])) := by
  have K := clK w o p A n c s
  have HB := Lib.hid (clBl w o p A n c s)
  have c1 := K.cell 1 _ rfl
  have c2 := K.cell 2 _ rfl
  have HC := Lib.hid (ident_long (clW w o p A n c s) p A n c h0 h1 hn)
  clear K h0 h1 hn
  go_enter Try.func93, Try.ntmps93
  go_wp2_with (with_reducible refine (HC.out).mono ?_)
  rintro e w1 ⟨rfl, rfl⟩
  go_wp2
  go_ret2
  exact ⟨rfl, HB.out⟩
set_option maxHeartbeats 1600000 in
theorem keyed_good (w : World) (B o p : Nat) (s : Int) (A : Option Addr) (n c : Nat) (zs : List Nat) (h : Arg w B A n c zs) (hB : B ≤ w.heap.size) (ho : o < 256) (hp : p < 32) (hn : n ≤ 255) :
    Calls Try.prog 93 #[ClA o p A n c s] w (NewB w (o :: p :: n :: zs) (n + 3)) := by
  have K := clK w o p A n c s
  have HK := Lib.hid K
  have HB := Lib.hid (clBl w o p A n c s)
  have c1 := K.cell 1 _ rfl
  have c2 := K.cell 2 _ rfl
  have ew : IntKind.u8.wrap (n : Int) = (n : Int) := IntWalk.u8_in _ (by omega)
  have HC := Lib.hid (ident_ok (clW w o p A n c s) B A p n c zs (h.below ((clBl w o p A n c s).mono hB)) (by simp; omega) hp hn)
  have HZL := Lib.hid h.len
  clear K h
  go_enter Try.func93, Try.ntmps93
  go_wp2_with (with_reducible refine (HC.out).mono ?_)
  rintro e w1 ⟨A1, d1, rfl, ho1, hb1⟩
  obtain ⟨g, rfl⟩ := ho1.notnone (by omega)
  have hk1 := HK.out.below hb1
  have c0 := hk1.cell 0 _ rfl
  have hz1 := hb1.size
  simp only [World.size_alloc] at hz1
  have l1 := hk1.lt
  have ha := ho1.arg
  have hd1 := ha.le
  obtain ⟨b', off', e', hlt', hc'⟩ := ha.at_ (by omega)
  obtain ⟨rfl, rfl⟩ : g = b' ∧ 0 = off' := by simpa using e'
  have hc0 : w1.cell? ⟨g, 0, none⟩ = some (.int .u8 (p : Int)) := hc' 0 (by omega)
  have hs2 : ∀ w, (Instr.slice 22 (.slice (some ⟨g, 0, none⟩) (n + 1) d1) (some (.int .i64 1)) none none).run Try.prog w = .ok (.slice (frB (some ⟨g, 0, none⟩) d1 1) n (d1 - 1)) w := fun w => run_fromB2 w (some ⟨g, 0, none⟩) (n + 1) d1 1 (by omega)
  have HA1 := Lib.hid (ha.fromB (k := 1) (by omega))
  have HB1 := Lib.hid (HB.out.trans (hb1.mono (by simp)))
  clear hk1 ha hc' e' ho1 hb1 c1 c2 HC
  go_wp2
  go_quiet (fail)
  have hl := OwnB.lit (w1.drewN nq) [o, p, n] (by simp; omega) (n := 3) rfl (by unfold maxLen; omega)
  have hsd : (w1.drewN nq).heap.size = w1.heap.size := by simp
  rw [hsd] at hl
  have HOL := Lib.hid hl
  have bl : Below w1.heap.size w1 ((w1.drewN nq).alloc (.cells ([o, p, n].map V8).toArray 5)) := (below_drewN (Below.refl _ _) nq).alloc (by rw [hsd]; exact Nat.le_refl _) _
  have HBl := Lib.hid bl
  have HAs : Hid (Arg ((w1.drewN nq).alloc (.cells ([o, p, n].map V8).toArray 5)) w1.heap.size (frB (some ⟨g, 0, none⟩) d1 1) n (d1 - 1) zs) := Lib.hid (HA1.out.below bl)
  have hsz : w1.heap.size ≤ ((w1.drewN nq).alloc (.cells ([o, p, n].map V8).toArray 5)).heap.size := bl.size
  have HSZ := Lib.hid hsz
  clear hl bl hsz hsd
  go_wp2_with (refine wpList_append_bytes rfl (.tmp 30) (.tmp 31) rfl w1.heap.size (some ⟨w1.heap.size, 0, none⟩) 3 3 [o, p, n] rfl HOL.out w1.heap.size (frB (some ⟨g, 0, none⟩) d1 1) n (d1 - 1) zs rfl HAs.out (by omega) HSZ.out ?_)
  intro A3 d3 w3 ho3 hb3
  have HO3 := Lib.hid (ho3.mono (B' := w.heap.size) (by omega))
  have HB3 := Lib.hid (HB1.out.trans ((HBl.out.trans hb3).mono (by omega)))
  clear ho3 hb3
  go_wp2
  go_ret2
  exact ⟨A3, d3, ret_sl (by omega), by rw [Nat.add_comm n 3]; exact HO3.out, HB3.out⟩
theorem wtick_b (w : World) (p : Int) (b : Bool) (h : tkB p = b) : Calls Try.prog 100 #[.int .i64 p] w fun e w' => e = .returned (.bool b) ∧ w = w' := by subst h; exact wtick_any w p
theorem allow_no (w : World) (o p s : Int) (A : Option Addr) (n c : Nat) (hs : tkB s = false) : Calls Try.prog 92 #[ClA o p A n c s] w (ValEnd w (.tuple #[.slice none 0 0, .int .i64 1])) := by
  have K := clK w o p A n c s
  have HK := Lib.hid K
  have HB := Lib.hid (clBl w o p A n c s)
  have c0 := K.cell 0 _ rfl
  have c1 := K.cell 1 _ rfl
  have c2 := K.cell 2 _ rfl
  have c3 := K.cell 3 _ rfl
  have HT := Lib.hid (wtick_b (clW w o p A n c s) s false hs)
  clear K hs
  go_enter Try.func92, Try.ntmps92
  go_wp2_with (with_reducible refine (HT.out).mono ?_)
  rintro e w1 ⟨rfl, rfl⟩
  go_wp2
  go_ret2
  exact ⟨rfl, HB.out⟩
theorem allow_err (w : World) (o p s : Int) (A : Option Addr) (n c : Nat) (f : Int) (hs : tkB s = true) (hf : f = 1 ∨ f = 2) (hk : Calls Try.prog 93 #[ClA o p A n c s] (clW w o p A n c s) (ValEnd (clW w o p A n c s) (.tuple #[.slice none 0 0, .int .i64 f]))) : Calls Try.prog 92 #[ClA o p A n c s] w (ValEnd w (.tuple #[.slice none 0 0, .int .i64 f])) := by
  have K := clK w o p A n c s
  have HK := Lib.hid K
  have HB := Lib.hid (clBl w o p A n c s)
  have c0 := K.cell 0 _ rfl
  have c1 := K.cell 1 _ rfl
  have c2 := K.cell 2 _ rfl
  have c3 := K.cell 3 _ rfl
  have HT := Lib.hid (wtick_b (clW w o p A n c s) s true hs)
  have HC := Lib.hid hk
  have hne : (f != 0) = true := by rcases hf with rfl | rfl <;> rfl
  clear K hs hk hf
  go_enter Try.func92, Try.ntmps92
  go_wp2_with (with_reducible refine (HT.out).mono ?_)
  rintro e w1 ⟨rfl, rfl⟩
  go_wp2_with fail
  with_reducible refine (HC.out).mono ?_
  rintro e w2 ⟨rfl, hb2⟩
  have HB2 := Lib.hid (HB.out.trans (hb2.mono (by simp)))
  clear hb2
  go_wp2
  go_ret2
  exact ⟨rfl, HB2.out⟩
set_option maxHeartbeats 1600000 in
theorem allow_good (w : World) (B o p s : Nat) (A : Option Addr) (n c : Nat) (zs : List Nat) (h : Arg w B A n c zs) (hB : B ≤ w.heap.size) (ho : o < 256) (hp : p < 32) (hn : n ≤ 255) (hs : s ≤ 4611686018427387903) :
    Calls Try.prog 92 #[ClA o p A n c s] w (NewB w ((o :: p :: n :: zs) ++ Tk.wordV s 8) (n + 11)) := by
  have K := clK w o p A n c s
  have HK := Lib.hid K
  have HB := Lib.hid (clBl w o p A n c s)
  have c0 := K.cell 0 _ rfl
  have c1 := K.cell 1 _ rfl
  have c2 := K.cell 2 _ rfl
  have c3 := K.cell 3 _ rfl
  have HT := Lib.hid (wtick_b (clW w o p A n c s) s true (tkB_of (by omega) (by omega)))
  have HC := Lib.hid (keyed_good (clW w o p A n c s) B o p s A n c zs (h.below ((clBl w o p A n c s).mono hB)) (by simp; omega) ho hp hn)
  have eu : IntKind.u64.wrap (s : Int) = (s : Int) := IntWalk.u64_in _ (by omega)
  clear K h
  go_enter Try.func92, Try.ntmps92
  go_wp2_with (with_reducible refine (HT.out).mono ?_)
  rintro e w1 ⟨rfl, rfl⟩
  go_wp2_with fail
  with_reducible refine (HC.out).mono ?_
  rintro e w2 ⟨A2, d2, rfl, ho2, hb2⟩
  have hk2 := HK.out.below hb2
  have q3 := hk2.cell 3 _ rfl
  have HO2 := Lib.hid (ho2.mono (B' := w.heap.size) (by simp))
  have HB2 := Lib.hid (HB.out.trans (hb2.mono (by simp)))
  have HA := Lib.hid (append8 w2 w.heap.size A2 (n + 3) d2 s _ HO2.out HB2.out.size (by omega) (by omega))
  clear hk2 ho2 hb2 c0 c1 c2 c3
  go_wp2_with fail
  with_reducible refine (HA.out).mono ?_
  rintro e w3 ⟨A3, d3, rfl, ho3, hb3⟩
  have HO3 := Lib.hid ho3
  have HB3 := Lib.hid (HB2.out.trans hb3)
  clear ho3 hb3
  go_wp2
  go_ret2
  exact ⟨A3, d3, ret_sl (by omega), HO3.out, HB3.out⟩
theorem release_err (w : World) (o p s : Int) (A : Option Addr) (n c : Nat) (f : Int) (hf : f = 1 ∨ f = 2) (hk : Calls Try.prog 21 #[TokA p s A n c] (clW w o p A n c s) (ValEnd (clW w o p A n c s) (.tuple #[.slice none 0 0, .int .i64 f]))) : Calls Try.prog 94 #[ClA o p A n c s] w (ValEnd w (.tuple #[.slice none 0 0, .int .i64 f])) := by
  have K := clK w o p A n c s
  have HK := Lib.hid K
  have HB := Lib.hid (clBl w o p A n c s)
  have c0 := K.cell 0 _ rfl
  have c1 := K.cell 1 _ rfl
  have c2 := K.cell 2 _ rfl
  have c3 := K.cell 3 _ rfl
  have HC := Lib.hid hk
  have hne : (f != 0) = true := by rcases hf with rfl | rfl <;> rfl
  clear K hk hf
  go_enter Try.func94, Try.ntmps94
  go_wp2_with fail
  with_reducible refine (HC.out).mono ?_
  rintro e w2 ⟨rfl, hb2⟩
  have HB2 := Lib.hid (HB.out.trans (hb2.mono (by simp)))
  clear hb2
  go_wp2
  go_ret2
  exact ⟨rfl, HB2.out⟩
set_option maxHeartbeats 1600000 in
theorem release_good (w : World) (B o p s : Nat) (A : Option Addr) (n c : Nat) (zs : List Nat) (h : Arg w B A n c zs) (hB : B ≤ w.heap.size) (ho : o < 256) (hp : p < 32) (hn : n ≤ 255) (hs1 : 1 ≤ s) (hs : s ≤ 4611686018427387903) :
    Calls Try.prog 94 #[ClA o p A n c s] w (NewB w (o :: tokV p zs s) (n + 17)) := by
  have K := clK w o p A n c s
  have HK := Lib.hid K
  have HB := Lib.hid (clBl w o p A n c s)
  have c0 := K.cell 0 _ rfl
  have c1 := K.cell 1 _ rfl
  have c2 := K.cell 2 _ rfl
  have c3 := K.cell 3 _ rfl
  have HC := Lib.hid (encode_good (clW w o p A n c s) B p s A n c zs (h.below ((clBl w o p A n c s).mono hB)) (by simp; omega) hp hs1 hs hn)
  clear K h
  go_enter Try.func94, Try.ntmps94
  go_wp2_with fail
  with_reducible refine (HC.out).mono ?_
  rintro e w2 ⟨A2, d2, rfl, ho2, hb2⟩
  have hk2 := HK.out.below hb2
  have q0 := hk2.cell 0 _ rfl
  have HB2 := Lib.hid (HB.out.trans (hb2.mono (by simp)))
  have hl := OwnB.lit w2 [o] (by simp; omega) (n := 1) rfl (by unfold maxLen; omega)
  have HOL := Lib.hid hl
  have bl : Below w2.heap.size w2 (w2.alloc (.cells ([o].map V8).toArray 5)) := (Below.refl _ _).alloc (Nat.le_refl _) _
  have HBl := Lib.hid bl
  have HAs := Lib.hid (ho2.arg.below bl)
  have HSZ := Lib.hid bl.size
  have hz2 := HB2.out.size
  clear hk2 ho2 hb2 c0 c1 c2 c3 hl bl
  go_wp2_with (refine wpList_append_bytes rfl (.tmp 22) (.tmp 23) rfl w2.heap.size (some ⟨w2.heap.size, 0, none⟩) 1 1 [o] rfl HOL.out w2.heap.size A2 (n + 16) d2 _ rfl HAs.out (by omega) HSZ.out ?_)
  intro A3 d3 w3 ho3 hb3
  have HO3 := Lib.hid (ho3.mono (B' := w.heap.size) (by omega))
  have HB3 := Lib.hid (HB2.out.trans ((HBl.out.trans hb3).mono (by omega)))
  clear ho3 hb3
  go_wp2
  go_ret2
  exact ⟨A3, d3, ret_sl (by omega), by rw [show n + 17 = 1 + (n + 16) by omega]; exact HO3.out, HB3.out⟩
end Go.Proofs.Ytndgladfcogiiaa
