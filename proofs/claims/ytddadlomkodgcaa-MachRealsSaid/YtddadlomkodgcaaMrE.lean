/- Contracts: the document's Load and Clock: their one statement draws its order. -/
import Derived.Test.YtddadlomkodgcaaMrD
import Derived.Deep.AppendLies
import Derived.Deep.RegionLaw
import Derived.BigRegion
namespace Go.Proofs.Ytddadlomkodgcaa
open Go.RowKit
set_option maxRecDepth 100000
set_option linter.unusedVariables false
section
variable (w : World) (B d dw n : Nat) (ws : List Nat) (now : Int) (ln : Nat)
set_option maxHeartbeats 3200000 in
theorem dload_any (h : DmS w B d dw n ws now ln) (hln : ln ≤ 100000) (who : Int) (j : Nat) (hj : j < n) :
    Calls Try.prog 63 #[.pointer (some ⟨d, 0, none⟩), .int .i64 who, .int .i64 (j : Int)] w fun e w' => e = .returned (.int .u64 (ws.getD j 0 : Nat)) ∧
      DmS w' B d dw n ws now (ln + 1) ∧ OffB B [d, dw] w w' := by
  obtain ⟨⟨L, lc, cs, hd, hown⟩, hwd, hlen, hne, hld, hlw, hB⟩ := h
  have c0 := hd.cell 0 _ rfl
  have c1 := hd.cell 1 _ rfl
  have c2 := hd.cell 2 _ rfl
  have hw : w.cell? ⟨dw, j, none⟩ = some (.int .u64 (ws.getD j 0 : Nat)) := hwd.cell j _ (by
    rw [List.getElem?_map, List.getElem?_eq_getElem (by rw [hlen]; exact hj)]; simp [List.getD_eq_getElem?_getD, hlen, hj])
  have i0 : (0 : Int) ≤ (j : Int) := by omega
  have i1 : (j : Int) < (n : Int) := by omega
  have hlt := hd.lt
  have hltw := hwd.lt
  have g2 := hd.froz 2 (by simp)
  have HD := Lib.hid hd
  have HWD := Lib.hid hwd
  have HLEN := Lib.hid hlen
  have hz : (w.alloc (.cells #[.int .i64 who, .int .u8 1, .int .i64 (j : Int), .int .u64 (ws.getD j 0 : Nat), .int .u64 0, .bool true] 148)).heap.size = w.heap.size + 1 := by simp
  have b1 := (Below.refl w.heap.size w).alloc (Nat.le_refl _) (.cells #[.int .i64 who, .int .u8 1, .int .i64 (j : Int), .int .u64 (ws.getD j 0 : Nat), .int .u64 0, .bool true] 148)
  have HO := Lib.hid (hown.below b1)
  have KT := Lib.hid (BlkL.new w [.int .i64 who, .int .u8 1, .int .i64 (j : Int), .int .u64 (ws.getD j 0 : Nat), .int .u64 0, .bool true] 148)
  have B1 := Lib.hid (b1.mono hB)
  have hBz : B ≤ (w.alloc (.cells #[.int .i64 who, .int .u8 1, .int .i64 (j : Int), .int .u64 (ws.getD j 0 : Nat), .int .u64 0, .bool true] 148)).drew.heap.size := by show B ≤ (w.alloc (.cells #[.int .i64 who, .int .u8 1, .int .i64 (j : Int), .int .u64 (ws.getD j 0 : Nat), .int .u64 0, .bool true] 148)).heap.size; rw [hz]; omega
  clear hd hwd hown b1 hlen hz
  go_enter Try.func63, Try.ntmps63
  go_wp2
  go_region_law (first
    | (refine step_append_row rfl (.tmp 11) (.tmp 22) 106 rfl B 148 _ 6 48 Try.underlying106 dacc_info rfl (by omega) L ln lc cs rfl HO.out.drew w.heap.size 1 [.int .i64 who, .int .u8 1, .int .i64 (j : Int), .int .u64 (ws.getD j 0 : Nat), .int .u64 0, .bool true] rfl rfl KT.out.drew.cell (by simp [Value.oneCell']) (by unfold maxLen; omega) (by omega) hBz ?_; intro A2 c2' w5 ho5 hb6; have hb7 := B1.out.drew.trans hb6; have o7 : OffB B [] w w5 := OffB.of_below hb7; have kd := o7.blk HD.out hld (by simp); have kw := o7.blk HWD.out hlw (by simp); have d2 := kd.cell 2 _ rfl; have d0 := kd.cell 0 _ rfl; have d1 := kd.cell 1 _ rfl; have e2 := kd.froz 2 (by simp); have ld5 := kd.lt; have lw5 := kw.lt; have KD := Lib.hid kd; have KW := Lib.hid kw; have HO5 := Lib.hid ho5; have HB7 := Lib.hid hb7; have hs5 := hb7.size; clear ho5 hb6 hb7 o7 kd kw))
  all_goals
    clear c0 c1 c2
    have w2c := KW.out.cell j (.int .u64 (ws.getD j 0 : Nat)) (by rw [List.getElem?_map, List.getElem?_eq_getElem (by rw [HLEN.out]; exact hj)]; simp [List.getD_eq_getElem?_getD, HLEN.out, hj])
    go_wp2
    go_ret
    exact ⟨rfl, DmS.logged KD.out KW.out HO5.out HLEN.out hne hld hlw (by omega), (OffB.of_below HB7.out).setCell (by simp) _⟩
set_option maxHeartbeats 3200000 in
theorem dclock_any (h : DmS w B d dw n ws now ln) (hln : ln ≤ 100000) (who : Int) (hn0 : 0 ≤ now) (hn1 : now ≤ 4611686018427387903) :
    Calls Try.prog 67 #[.pointer (some ⟨d, 0, none⟩), .int .i64 who] w fun e w' => e = .returned (.int .i64 now) ∧
      DmS w' B d dw n ws now (ln + 1) ∧ OffB B [d, dw] w w' := by
  obtain ⟨⟨L, lc, cs, hd, hown⟩, hwd, hlen, hne, hld, hlw, hB⟩ := h
  have c0 := hd.cell 0 _ rfl
  have c1 := hd.cell 1 _ rfl
  have c2 := hd.cell 2 _ rfl
  have hwn : IntKind.u64.wrap now = now := by rw [u64w]; omega
  have hlt := hd.lt
  have hltw := hwd.lt
  have g2 := hd.froz 2 (by simp)
  have HD := Lib.hid hd
  have HWD := Lib.hid hwd
  have HLEN := Lib.hid hlen
  have hz : (w.alloc (.cells #[.int .i64 who, .int .u8 3, .int .i64 0, .int .u64 now, .int .u64 0, .bool true] 148)).heap.size = w.heap.size + 1 := by simp
  have b1 := (Below.refl w.heap.size w).alloc (Nat.le_refl _) (.cells #[.int .i64 who, .int .u8 3, .int .i64 0, .int .u64 now, .int .u64 0, .bool true] 148)
  have HO := Lib.hid (hown.below b1)
  have KT := Lib.hid (BlkL.new w [.int .i64 who, .int .u8 3, .int .i64 0, .int .u64 now, .int .u64 0, .bool true] 148)
  have B1 := Lib.hid (b1.mono hB)
  have hBz : B ≤ (w.alloc (.cells #[.int .i64 who, .int .u8 3, .int .i64 0, .int .u64 now, .int .u64 0, .bool true] 148)).drew.heap.size := by show B ≤ (w.alloc (.cells #[.int .i64 who, .int .u8 3, .int .i64 0, .int .u64 now, .int .u64 0, .bool true] 148)).heap.size; rw [hz]; omega
  clear hd hwd hown b1 hlen hz
  go_enter Try.func67, Try.ntmps67
  go_wp2
  go_region_law (first
    | (refine step_append_row rfl (.tmp 9) (.tmp 17) 106 rfl B 148 _ 6 48 Try.underlying106 dacc_info rfl (by omega) L ln lc cs rfl HO.out.drew w.heap.size 1 [.int .i64 who, .int .u8 3, .int .i64 0, .int .u64 now, .int .u64 0, .bool true] rfl rfl KT.out.drew.cell (by simp [Value.oneCell']) (by unfold maxLen; omega) (by omega) hBz ?_; intro A2 c2' w5 ho5 hb6; have hb7 := B1.out.drew.trans hb6; have o7 : OffB B [] w w5 := OffB.of_below hb7; have kd := o7.blk HD.out hld (by simp); have kw := o7.blk HWD.out hlw (by simp); have d2 := kd.cell 2 _ rfl; have d0 := kd.cell 0 _ rfl; have d1 := kd.cell 1 _ rfl; have e2 := kd.froz 2 (by simp); have ld5 := kd.lt; have lw5 := kw.lt; have KD := Lib.hid kd; have KW := Lib.hid kw; have HO5 := Lib.hid ho5; have HB7 := Lib.hid hb7; have hs5 := hb7.size; clear ho5 hb6 hb7 o7 kd kw))
  all_goals
    clear c0 c1 c2
    skip
    go_wp2
    go_ret
    exact ⟨rfl, DmS.logged KD.out KW.out HO5.out HLEN.out hne hld hlw (by omega), (OffB.of_below HB7.out).setCell (by simp) _⟩
end
end Go.Proofs.Ytddadlomkodgcaa
