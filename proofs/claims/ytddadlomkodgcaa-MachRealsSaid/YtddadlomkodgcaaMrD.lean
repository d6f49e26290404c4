/- The document's machine in memory; contracts: DocNew, word, Load, Swap, Clock. -/
import Derived.Test.YtddadlomkodgcaaMrA
import Derived.Test.YtddadlomkodgcaaRow
import Derived.Deep.AppendLies
import Derived.Deep.RegionLaw
import Derived.BigRegion
namespace Go.Proofs.Ytddadlomkodgcaa
open Go.RowKit
set_option maxRecDepth 100000
set_option linter.unusedVariables false

/-- What a call leaves alone: all blocks below B but a few. -/
structure OffB (B : Nat) (S : List Nat) (w w' : World) : Prop where
  os : w'.os = w.os
  tape : w'.tape = w.tape
  output : w'.output = w.output
  size : w.heap.size ≤ w'.heap.size
  block : ∀ k, k < B → k ∉ S → w'.heap[k]? = w.heap[k]?
section
variable {B : Nat} {S S' : List Nat} {w w' w2 : World}
theorem OffB.refl (B : Nat) (S : List Nat) (w : World) : OffB B S w w := ⟨rfl, rfl, rfl, Nat.le_refl _, fun _ _ _ => rfl⟩
theorem OffB.trans (h : OffB B S w w') (k : OffB B S w' w2) : OffB B S w w2 :=
  ⟨k.os.trans h.os, k.tape.trans h.tape, k.output.trans h.output, Nat.le_trans h.size k.size, fun i hi hs => (k.block i hi hs).trans (h.block i hi hs)⟩
theorem OffB.of_below (h : Below B w w') : OffB B S w w' := ⟨h.os, h.tape, h.output, h.size, fun i hi _ => h.block i hi⟩
theorem OffB.of_off (h : Off S w w') (hB : B ≤ w.heap.size) (hs : ∀ x ∈ S, x ∈ S') : OffB B S' w w' := ⟨h.os, h.tape, h.output, h.size, fun i hi hn => h.block i (by omega) (fun e => hn (hs i e))⟩
theorem OffB.mono (h : OffB B S w w') (hs : ∀ x ∈ S, x ∈ S') : OffB B S' w w' := ⟨h.os, h.tape, h.output, h.size, fun i hi hn => h.block i hi (fun e => hn (hs i e))⟩
theorem OffB.blk (h : OffB B S w w') {b : Nat} {xs : List Value} (hb : BlkL w b xs) (hB : b < B) (hs : b ∉ S) : BlkL w' b xs :=
  ⟨Nat.lt_of_lt_of_le hb.lt h.size, fun i v hv => (World.cell?_of_block (w := w) (a := ⟨b, i, none⟩) (h.block b hB hs)).trans (hb.cell i v hv), fun i hi => (World.frozen?_of_block (w := w) (a := ⟨b, i, none⟩) (h.block b hB hs)).trans (hb.froz i hi)⟩
theorem OffB.setCell (h : OffB B S w w') {p : Addr} (hp : p.block ∈ S) (u : Value) : OffB B S w (w'.setCell p u) :=
  h.trans ⟨rfl, rfl, rfl, by simp [World.setCell], fun k hk hs => Below.heap_setCell _ _ _ _ (fun e => hs (e ▸ hp))⟩
theorem OffB.drew (h : OffB B S w w') : OffB B S w w'.drew := ⟨h.os, h.tape, h.output, h.size, h.block⟩
theorem OffB.below (h : OffB B S w w') {C : Nat} (hC : C ≤ B) (hs : ∀ x ∈ S, C ≤ x) : Below C w w' :=
  ⟨h.os, h.tape, h.output, h.size, fun i hi => h.block i (by omega) (fun e => by have := hs i e; omega)⟩
theorem OwnC.setOther {T : TypeId} {k : Nat} {A : Option Addr} {n c : Nat} {cs : List Value} (h : OwnC w B T k A n c cs) {p : Addr} (hp : p.block < B) (u : Value) : OwnC (w.setCell p u) B T k A n c cs := by
  rcases h with ⟨h0, h | ⟨g, cap, cur, h1, h2, h3, h4⟩⟩
  · exact ⟨h0, .inl h⟩
  · exact ⟨h0, .inr ⟨g, cap, cur, h1, h2, (Below.heap_setCell _ _ _ _ (by omega)).trans h3, h4⟩⟩
theorem OwnC.drew {T : TypeId} {k : Nat} {A : Option Addr} {n c : Nat} {cs : List Value} (h : OwnC w B T k A n c cs) : OwnC w.drew B T k A n c cs := h
end
structure DmS (w : World) (B d dw n : Nat) (ws : List Nat) (now : Int) (ln : Nat) : Prop where
  log : ∃ L lc cs, BlkL w d [.slice (some ⟨dw, 0, none⟩) n n, .int .i64 now, .slice L ln lc] ∧ OwnC w B 148 6 L ln lc cs
  wd : BlkL w dw (ws.map U)
  len : ws.length = n
  ne : d ≠ dw
  ld : d < B
  lw : dw < B
  hB : B ≤ w.heap.size
section
variable {w w' : World} {B d dw n : Nat} {ws : List Nat} {now : Int} {ln : Nat}
theorem DmS.setWord (h : DmS w B d dw n ws now ln) {j : Nat} (hj : j < n) (x : Nat) : DmS (w.setCell ⟨dw, j, none⟩ (.int .u64 (x : Int))) B d dw n (ws.set j x) now ln := by
  obtain ⟨L, lc, cs, h1, h2⟩ := h.log
  exact ⟨⟨L, lc, cs, h1.other dw j _ (Ne.symm h.ne), h2.setOther (p := ⟨dw, j, none⟩) h.lw _⟩, by rw [List.map_set]; exact h.wd.set j _ (by simp [h.len]; exact hj), by simp [h.len], h.ne, h.ld, h.lw, by simpa using h.hB⟩
theorem DmS.setNow (h : DmS w B d dw n ws now ln) (t : Int) : DmS (w.setCell ⟨d, 1, none⟩ (.int .i64 t)) B d dw n ws t ln := by
  obtain ⟨L, lc, cs, h1, h2⟩ := h.log
  exact ⟨⟨L, lc, cs, h1.set 1 (.int .i64 t) (by simp), h2.setOther (p := ⟨d, 1, none⟩) h.ld _⟩, h.wd.other d 1 _ h.ne, h.len, h.ne, h.ld, h.lw, by simpa using h.hB⟩
theorem DmS.logged {L0 : Value} {L : Option Addr} {lc : Nat} {cs : List Value} (hd : BlkL w d [.slice (some ⟨dw, 0, none⟩) n n, .int .i64 now, L0]) (hw : BlkL w dw (ws.map U)) (ho : OwnC w B 148 6 L ln lc cs)
    (len : ws.length = n) (ne : d ≠ dw) (ld : d < B) (lw : dw < B) (hB : B ≤ w.heap.size) : DmS (w.setCell ⟨d, 2, none⟩ (.slice L ln lc)) B d dw n ws now ln :=
  ⟨⟨L, lc, cs, hd.set 2 (.slice L ln lc) (by simp), ho.setOther (p := ⟨d, 2, none⟩) ld _⟩, hw.other d 2 _ ne, len, ne, ld, lw, by simpa using hB⟩
theorem DmS.off (h : DmS w B d dw n ws now ln) {S : List Nat} (hb : Off S w w') (hs : ∀ x ∈ S, x < B) (h1 : d ∉ S) (h2 : dw ∉ S) : DmS w' B d dw n ws now ln := by
  obtain ⟨L, lc, cs, k1, k2⟩ := h.log
  refine ⟨⟨L, lc, cs, k1.off hb h1, ?_⟩, h.wd.off hb h2, h.len, h.ne, h.ld, h.lw, Nat.le_trans h.hB hb.size⟩
  rcases k2 with ⟨h0, h | ⟨g, cap, cur, e1, e2, e3, e4⟩⟩
  · exact ⟨h0, .inl h⟩
  · have hlt : g < w.heap.size := by
      rcases Nat.lt_or_ge g w.heap.size with h | h
      · exact h
      · rw [Array.getElem?_eq_none h] at e3; cases e3
    exact ⟨h0, .inr ⟨g, cap, cur, e1, e2, (hb.block g hlt (fun hm => by have := hs g hm; omega)).trans e3, e4⟩⟩
end
theorem dacc_info : (Try.prog.info? 148).map (fun i => (i.zero, i.size, i.bytes)) = some (some (.agg #[.int .i64 0, .int .u8 0, .int .i64 0, .int .u64 0, .int .u64 0, .bool false]), 6, 48) := by kernel_rfl
theorem step_append_row {w : World} {ops : Array Oper} {o : Oper} {a : Act} {K : Act → World → Prop} {Q : Exit → Act → World → Prop} {E : Prop} (hgd : o.guard = none) (s x : Operand) (t : TypeId)
    (ho : o.op = .call { callee := .builtin .append, args := #[s, x], argTypes := #[t, t] })
    (base : Nat) (e : TypeId) (z : Value) (k bytes : Nat) (ht : Try.prog.underlying t = some (.slice e)) (hinfo : (Try.prog.info? e).map (fun i => (i.zero, i.size, i.bytes)) = some (some z, k, bytes)) (hz : z.cells.size = k) (hk : 0 < k)
    (A : Option Addr) (n c : Nat) (cs : List Value) (hs : a.eval s = .slice A n c) (hown : OwnC w base e k A n c cs)
    (g m : Nat) (vs : List Value) (hx : a.eval x = .slice (some ⟨g, 0, none⟩) 1 m) (hvs : vs.length = k) (hcell : ∀ j u, vs[j]? = some u → w.cell? ⟨g, j, none⟩ = some u) (h1 : ∀ u ∈ vs, u.oneCell' = true)
    (hn : n + 1 ≤ maxLen) (hbytes : (n + 1) * bytes ≤ 140737488355328) (hbase : base ≤ w.heap.size)
    (h : ∀ A' c' w', OwnC w' base e k A' (n + 1) c' (cs ++ vs) → Below base w w' → K (a.put o.dst (.slice A' (n + 1) c')) w') :
    if Region.wanted o (yielded ops a.tmps) = true then Oper.wp Try.prog o a w K Q else E := by
  obtain ⟨i0, hi, hz0, hz1, hz2⟩ := info_parts hinfo
  have hlt := fun k hk => (World.ownsRow.lt hown k hk).1
  refine step_append_lies w hgd s x t ho base e i0 z k bytes ht hi hz0 hz1 hz2 hz hk _ n _ hs hown ⟨g, 0, none⟩ 1 m vs hx (by omega) (fun j u hj => ?_) h1 (by omega) hn hbytes hbase w.heap.size rfl ?_
  · have e2 : (⟨g, 0, none⟩ : Addr).add j = ⟨g, j, none⟩ := by unfold Addr.add; split <;> simp_all
    rw [e2]; exact hcell j u hj
  · intro g' cap' w' h2 h3 h4 h5
    exact h _ _ _ h2 ((Below.refl _ _).grown h3 hbase hlt)
theorem dword_nil (w : World) (i : Int) : Calls Try.prog 62 #[.pointer none, .int .i64 i] w fun e w' => e = .returned (.bool false) ∧ w = w' := by
  go_enter Try.func62, Try.ntmps62
  go_wp2
  go_ret
  exact ⟨rfl, rfl⟩
theorem dword_any (w : World) (d : Nat) (A : Option Addr) (n : Nat) (i : Int) (hc : w.cell? ⟨d, 0, none⟩ = some (.slice A n n)) : Calls Try.prog 62 #[.pointer (some ⟨d, 0, none⟩), .int .i64 i] w fun e w' => e = .returned (.bool (inB i n)) ∧ w = w' := by
  rcases h : decide (0 ≤ i) with _ | _
  · have e : inB i n = false := by unfold inB; rw [h]; rfl
    have h' : ¬ (0 : Int) ≤ i := by simpa using h
    rw [e]
    clear e h
    go_enter Try.func62, Try.ntmps62
    go_wp2
    go_ret
    exact ⟨rfl, rfl⟩
  · have e : inB i n = decide (i < n) := by unfold inB; rw [h]; rfl
    have h' : (0 : Int) ≤ i := by simpa using h
    rw [e]
    clear e h
    go_enter Try.func62, Try.ntmps62
    go_wp2
    go_ret
    exact ⟨rfl, rfl⟩
section
variable (w : World) (B d dw n : Nat) (ws : List Nat) (now : Int) (ln : Nat)
set_option maxHeartbeats 3200000 in
theorem dswap_any (h : DmS w B d dw n ws now ln) (hln : ln ≤ 100000) (who : Int) (j old new : Nat) (hj : j < n) :
    Calls Try.prog 65 #[.pointer (some ⟨d, 0, none⟩), .int .i64 who, .int .i64 (j : Int), .int .u64 (old : Int), .int .u64 (new : Int)] w fun e w' => e = .returned (.bool (decide (ws.getD j 0 = old))) ∧
      DmS w' B d dw n (if ws.getD j 0 = old then ws.set j new else ws) now (ln + 1) ∧ OffB B [d, dw] w w' := by
  obtain ⟨⟨L, lc, cs, hd, hown⟩, hwd, hlen, hne, hld, hlw, hB⟩ := h
  have c0 := hd.cell 0 _ rfl
  have c2 := hd.cell 2 _ rfl
  have hw : w.cell? ⟨dw, j, none⟩ = some (.int .u64 (ws.getD j 0 : Nat)) := hwd.cell j _ (by
    rw [List.getElem?_map, List.getElem?_eq_getElem (by rw [hlen]; exact hj)]; simp [List.getD_eq_getElem?_getD, hlen, hj])
  have i0 : (0 : Int) ≤ (j : Int) := by omega
  have i1 : (j : Int) < (n : Int) := by omega
  have hlt := hd.lt
  have hltw := hwd.lt
  have HD := Lib.hid hd
  have HWD := Lib.hid hwd
  have HLEN := Lib.hid hlen
  have hz : (w.alloc (.cells #[.int .i64 who, .int .u8 2, .int .i64 (j : Int), .int .u64 (old : Int), .int .u64 (new : Int), .bool (decide (ws.getD j 0 = old))] 148)).heap.size = w.heap.size + 1 := by simp
  have b1 := (Below.refl w.heap.size w).alloc (Nat.le_refl _) (.cells #[.int .i64 who, .int .u8 2, .int .i64 (j : Int), .int .u64 (old : Int), .int .u64 (new : Int), .bool (decide (ws.getD j 0 = old))] 148)
  have HO := Lib.hid (hown.below b1)
  have KT := Lib.hid (BlkL.new w [.int .i64 who, .int .u8 2, .int .i64 (j : Int), .int .u64 (old : Int), .int .u64 (new : Int), .bool (decide (ws.getD j 0 = old))] 148)
  have B1 := Lib.hid (b1.mono hB)
  have hBz : B ≤ (w.alloc (.cells #[.int .i64 who, .int .u8 2, .int .i64 (j : Int), .int .u64 (old : Int), .int .u64 (new : Int), .bool (decide (ws.getD j 0 = old))] 148)).heap.size := by rw [hz]; omega
  clear hd hwd hown b1 hlen
  by_cases e : ws.getD j 0 = old
  · rw [if_pos e, decide_eq_true e]
    rw [decide_eq_true e] at HO KT B1 hBz
    rw [e] at hw
    clear e hz
    go_enter Try.func65, Try.ntmps65
    go_wp2_with (refine wpList_append_row rfl (.tmp 25) (.tmp 32) 106 rfl B 148 _ 6 48 Try.underlying106 dacc_info rfl (by omega) L ln lc cs rfl HO.out w.heap.size 1 [.int .i64 who, .int .u8 2, .int .i64 (j : Int), .int .u64 (old : Int), .int .u64 (new : Int), .bool true] rfl rfl KT.out.cell (by simp [Value.oneCell']) (by unfold maxLen; omega) (by omega) hBz ?_)
    intro A2 c2' w5 ho5 hb6
    have hb7 := B1.out.trans hb6
    have o7 : OffB B [] w w5 := OffB.of_below hb7
    have kd := o7.blk HD.out hld (by simp)
    have kw := o7.blk HWD.out hlw (by simp)
    have d2 := kd.cell 2 _ rfl
    have d0 := kd.cell 0 _ rfl
    have g2 := kd.froz 2 (by simp)
    have gw := kw.froz j (by simp [HLEN.out]; exact hj)
    have w2c := kw.cell j (.int .u64 (ws.getD j 0 : Nat)) (by rw [List.getElem?_map, List.getElem?_eq_getElem (by rw [HLEN.out]; exact hj)]; simp [List.getD_eq_getElem?_getD, HLEN.out, hj])
    have ld5 := kd.lt
    have lw5 := kw.lt
    have KD := Lib.hid kd
    have KW := Lib.hid kw
    have HO5 := Lib.hid ho5
    have HB7 := Lib.hid hb7
    have hs5 := hb7.size
    clear c0 c2 hw ho5 hb6 hb7 o7 kd kw
    go_wp2
    go_ret
    refine ⟨rfl, ?_, ?_⟩
    · exact (DmS.logged KD.out KW.out HO5.out HLEN.out hne hld hlw (by omega)).setWord hj new
    · exact (((OffB.of_below HB7.out).setCell (S := [d, dw]) (by simp) _).setCell (by simp) _)
  · rw [if_neg e, decide_eq_false e]
    rw [decide_eq_false e] at HO KT B1 hBz
    have hd2 : ((ws.getD j 0 : Int) == (old : Int)) = false := by simp only [beq_eq_false_iff_ne, ne_eq]; omega
    generalize ws.getD j 0 = x at hw hd2
    clear e hz
    go_enter Try.func65, Try.ntmps65
    go_wp2_with (refine wpList_append_row rfl (.tmp 25) (.tmp 32) 106 rfl B 148 _ 6 48 Try.underlying106 dacc_info rfl (by omega) L ln lc cs rfl HO.out w.heap.size 1 [.int .i64 who, .int .u8 2, .int .i64 (j : Int), .int .u64 (old : Int), .int .u64 (new : Int), .bool false] rfl rfl KT.out.cell (by simp [Value.oneCell']) (by unfold maxLen; omega) (by omega) hBz ?_)
    intro A2 c2' w5 ho5 hb6
    have hb7 := B1.out.trans hb6
    have o7 : OffB B [] w w5 := OffB.of_below hb7
    have kd := o7.blk HD.out hld (by simp)
    have kw := o7.blk HWD.out hlw (by simp)
    have d2 := kd.cell 2 _ rfl
    have d0 := kd.cell 0 _ rfl
    have g2 := kd.froz 2 (by simp)
    have gw := kw.froz j (by simp [HLEN.out]; exact hj)
    have ld5 := kd.lt
    have lw5 := kw.lt
    have KD := Lib.hid kd
    have KW := Lib.hid kw
    have HO5 := Lib.hid ho5
    have HB7 := Lib.hid hb7
    have hs5 := hb7.size
    clear c0 c2 hw ho5 hb6 hb7 o7 kd kw
    go_wp2
    go_ret
    exact ⟨rfl, DmS.logged KD.out KW.out HO5.out HLEN.out hne hld hlw (by omega), (OffB.of_below HB7.out).setCell (by simp) _⟩
end
end Go.Proofs.Ytddadlomkodgcaa
