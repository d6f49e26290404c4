/- New; the two awake. -/
import Derived.Test.YtnipmijbncmmeaaBkS
import Derived.Carry
import Derived.Lib.SlBytesConst

/- New: a book without cells. -/
namespace Go.Proofs.Ytnipmijbncmmeaa
open Go.RowKit Go.Maps
set_option maxRecDepth 100000
set_option linter.unusedVariables false

section
variable {w w' : World} {B B' k n c g : Nat} {A : Option Addr} {cs : List Value} {T : TypeId}
theorem OwnC.stored (h : OwnC w B T k (some ⟨g, 0, none⟩) n c cs) (j : Nat) (v : Value) : OwnC (w.setCell ⟨g, j, none⟩ v) B T k (some ⟨g, 0, none⟩) n c (cs.set j v) := (World.ownsRow.stored (w := w) h j v).1
theorem OwnC.grd (h : OwnC w B T k (some ⟨g, 0, none⟩) n c cs) : B ≤ g ∧ g < w.heap.size := by
  rcases h.2 with ⟨h1, h2⟩ | ⟨g', cap, cur, h1, hB, hg, _⟩
  · simp at h1
  · simp only [Value.slice.injEq, Option.some.injEq, Addr.mk.injEq, and_true, true_and] at h1
    obtain ⟨rfl, rfl⟩ := h1
    refine ⟨hB, ?_⟩
    rcases Nat.lt_or_ge g w.heap.size with h | h
    · exact h
    · rw [Array.getElem?_eq_none h] at hg; cases hg
theorem OwnC.frozenAt (h : OwnC w B T k (some ⟨g, 0, none⟩) n c cs) (j : Nat) : w.frozen? ⟨g, j, none⟩ = false := World.ownsRow.frozenAt h j
theorem OwnC.at0 (h : OwnC w B T k A n c cs) (hn : 0 < n) : ∃ g, A = some ⟨g, 0, none⟩ ∧ ∀ j, j < n * k → w.cell? ⟨g, j, none⟩ = cs[j]? := by
  have hh := h
  rcases h.2 with ⟨h1, h2⟩ | ⟨g, cap, cur, h1, h2, h3, h4, h5, h6, h7⟩
  · omega
  · simp only [Value.slice.injEq, true_and] at h1
    obtain ⟨rfl, rfl⟩ := h1
    exact ⟨g, rfl, fun j hj => World.ownsRow.cellAt (w := w) hh j hj⟩
theorem OwnC.lit0 (w : World) (T : TypeId) (k : Nat) : OwnC (w.alloc (.cells #[] T)) w.heap.size T k (some ⟨w.heap.size, 0, none⟩) 0 0 [] := by
  have h := World.ownsRow_lit (base := w.heap.size) (e := T) (size := k) w #[] 0 (Nat.le_refl _) (by unfold maxLen; omega) (by simp)
  unfold OwnC
  simpa using h
end

/-- An append of structs that are read from wherever they lie. -/
theorem wpList_append_rows {w : World} {ops : Array Oper} {rest : List Oper} {o : Oper} {a : Act} {Q : Exit → Act → World → Prop} (hgd : o.guard = none) (s x : Operand) (t : TypeId)
    (ho : o.op = .call { callee := .builtin .append, args := #[s, x], argTypes := #[t, t] })
    (base : Nat) (e : TypeId) (z : Value) (k bytes : Nat) (ht : Try.prog.underlying t = some (.slice e)) (hinfo : (Try.prog.info? e).map (fun i => (i.zero, i.size, i.bytes)) = some (some z, k, bytes)) (hz : z.cells.size = k) (hk : 0 < k)
    (A : Option Addr) (n c : Nat) (cs : List Value) (hs : a.eval s = .slice A n c) (hown : OwnC w base e k A n c cs)
    (B : Nat) (S : Option Addr) (m d : Nat) (vs : List Value) (hx : a.eval x = .slice S m d) (hr : ArgC w B k S m d vs) (h1 : ∀ u ∈ vs, u.oneCell' = true)
    (hn : n + m ≤ maxLen) (hbytes : (n + m) * bytes ≤ 140737488355328) (hbase : base ≤ w.heap.size)
    (h : ∀ A' c' w', OwnC w' base e k A' (n + m) c' (cs ++ vs) → Below base w w' → wpList Try.prog ops Q rest (a.put o.dst (.slice A' (n + m) c')) w') : wpList Try.prog ops Q (o :: rest) a w := by
  obtain ⟨i0, hi, hz0, hz1, hz2⟩ := info_parts hinfo
  have hlt := fun k hk => (World.ownsRow.lt hown k hk).1
  cases S with
  | some ad =>
    have hcell : ∀ j u, vs[j]? = some u → w.cell? (ad.add j) = some u := by
      intro j u hj
      have hjl : j < vs.length := by
        rcases Nat.lt_or_ge j vs.length with h | h
        · exact h
        · rw [List.getElem?_eq_none h] at hj; cases hj
      have hm : 0 < m := by
        rcases Nat.eq_zero_or_pos m with h0 | h0
        · have := hr.len; rw [h0, Nat.zero_mul] at this; omega
        · exact h0
      obtain ⟨b, off, e2, _, hc⟩ := hr.at_ hm
      injection e2 with e2
      subst e2
      have e3 : (⟨b, off, none⟩ : Addr).add j = ⟨b, off + j, none⟩ := by unfold Addr.add; split <;> simp_all
      rw [e3, hc j (by have := hr.len; omega)]
      exact hj
    refine wpList_append_own w hgd s x t ho base e i0 z k bytes ht hi hz0 hz1 hz2 hz hk _ n _ hs hown ad m d vs hx hr.len hcell h1 hn hbytes hbase ?_
    intro v' w' h2 h3 h4
    have hb' : Below base w w' := (Below.refl _ _).grown h3 hbase hlt
    rcases h2.2 with ⟨e, e2⟩ | ⟨g, cap, cur, e, _⟩
    · subst e
      have e0 : n + m = 0 := e2
      rw [e0] at h2
      have := h none 0 w' (by rw [e0]; exact h2) hb'
      rw [e0] at this
      exact this
    · subst e
      exact h _ _ _ h2 hb'
  | none =>
    obtain ⟨rfl, rfl⟩ := hr.none_ rfl
    obtain rfl : vs = [] := List.eq_nil_of_length_eq_zero (by have := hr.len; omega)
    refine wpList_plain hgd fun K hK' => ?_
    have hrun := run_append_owned_none (P := Try.prog) w base t o.type e i0 k ht hi _ n _ hown
    unfold Oper.wp
    simp [execOp, ho, resolve, invoke, builtin, hs, hx, hrun, Result.andThen]
    exact hK' _ _ (by simpa using h A c w (by simpa using hown) (Below.refl _ _))

theorem pol_info : (Try.prog.info? 52).map (fun i => (i.zero, i.size, i.bytes)) = some (some (.agg #[.int .u8 0, .int .i64 0, .int .i64 0, .int .i64 0]), 4, 32) := by kernel_rfl
theorem FP_one (l : List PolM) : ∀ u ∈ FP l, u.oneCell' = true := by
  intro u hu
  obtain ⟨p, _, hp⟩ := List.mem_flatMap.1 hu
  simp only [PolM.cells, List.mem_cons, List.not_mem_nil, or_false] at hp
  rcases hp with rfl | rfl | rfl | rfl <;> rfl
set_option maxHeartbeats 1600000 in
theorem clone16_any (w : World) (b off n c : Nat) (l : List PolM) (h : ArgC w w.heap.size 4 (some ⟨b, off, none⟩) n c (FP l)) (h32 : n ≤ 32) :
    Calls Try.prog 32 #[.slice (some ⟨b, off, none⟩) n c] w fun e w' => ∃ A' c', e = .returned (.slice A' n c') ∧ ArgC w' w'.heap.size 4 A' n c' (FP l) ∧ Below w.heap.size w w' := by
  have HARG := Lib.hid (h.below (below_a1 w (.cells #[] 52)))
  have HOWN := Lib.hid (OwnC.lit0 w 52 4)
  have heq : ∀ W : World, (binOp .eql 22 (.slice (some ⟨b, off, none⟩) n c) (.slice none 0 0)).run Try.prog W = .ok (.bool false) W := fun _ => rfl
  clear h
  go_enter Try.func32, Try.ntmps32
  go_wp2_with (refine wpList_append_rows rfl (.tmp 5) (.tmp 6) 22 rfl w.heap.size 52 _ 4 32 Try.underlying22 pol_info rfl (by omega) (some ⟨w.heap.size, 0, none⟩) 0 0 [] rfl HOWN.out w.heap.size (some ⟨b, off, none⟩) n c (FP l) rfl HARG.out (FP_one l) (by unfold maxLen; omega) (by omega) (by simp) ?_)
  intro A' c' w' hown hb
  have HR := Lib.hid hown.arg
  have HB := Lib.hid ((below_a1 w (.cells #[] 52)).trans hb)
  clear hb hown
  go_wp2
  go_ret
  exact ⟨A', c', rfl, HR.out, HB.out⟩

set_option maxHeartbeats 1600000 in
theorem bnew_any (w : World) (b off n c room : Nat) (l : List PolM) (h : ArgC w w.heap.size 4 (some ⟨b, off, none⟩) n c (FP l)) (h32 : n ≤ 32) (hr : 1 ≤ room ∧ room ≤ 4096) (hp : l.all polB = true) :
    Calls Try.prog 15 #[.slice (some ⟨b, off, none⟩) n c, .int .i64 (room : Nat)] w fun e w' => ∃ xb A' c' mb, e = .returned (.tuple #[.pointer (some ⟨xb, 0, none⟩), .int .i64 0]) ∧ BkX w' xb A' n c' l room mb 0 (fun _ => none) ∧ w.heap.size ≤ xb ∧ w.heap.size ≤ mb ∧ Below w.heap.size w w' := by
  have hln : l.length = n := by have := h.len; rw [FP_len] at this; omega
  have hpv : polsV l = 0 := by unfold polsV; rw [if_neg (by omega), if_pos hp]
  have HPo := Lib.hid (pols_any w w.heap.size (some ⟨b, off, none⟩) n c l h (Nat.le_refl _) (by omega))
  rw [hpv] at HPo
  have HCl := Lib.hid (fun W (hW : Below w.heap.size w W) => clone16_any W b off n c l ((h.below hW).more hW.size) h32)
  have HX := Lib.hid (And.intro hln (And.intro hr hp))
  have r1 : decide ((room : Int) < 1) = false := decide_eq_false (by omega)
  have r2 : decide (4096 < (room : Int)) = false := decide_eq_false (by omega)
  have hmm := @run_makeMap Try.prog
  clear h hln hpv hp hr
  go_enter Try.func15, Try.ntmps15
  go_wp2_with fail
  with_reducible refine (HPo.out).mono ?_
  rintro e w1 ⟨rfl, hb⟩
  have HB1 := Lib.hid hb
  clear hb
  go_wp2_with fail
  with_reducible refine (HCl.out _ HB1.out).mono ?_
  rintro e w2 ⟨A', c', rfl, hA, hb⟩
  have HB2 := Lib.hid (HB1.out.trans (hb.mono HB1.out.size))
  have HA := Lib.hid hA
  clear hb hA
  go_wp2
  have hbl := BlkL.new (w2.alloc (.map #[] 0)) [.slice A' n c', .int .i64 (room : Nat), .map (some w2.heap.size)] 71
  have hfr : Below w2.heap.size w2 ((w2.alloc (.map #[] 0)).alloc (.cells #[.slice A' n c', .int .i64 (room : Nat), .map (some w2.heap.size)] 71)) := below_a2 _ _ _
  have hom := (World.ownsMap_made w2 Try.prog 9 RV).alloc (.cells #[.slice A' n c', .int .i64 (room : Nat), .map (some w2.heap.size)] 71)
  have hbx : Below w.heap.size w ((w2.alloc (.map #[] 0)).alloc (.cells #[.slice A' n c', .int .i64 (room : Nat), .map (some w2.heap.size)] 71)) := HB2.out.trans (hfr.mono HB2.out.size)
  have hAx := (HA.out.below hfr).more hfr.size
  have hsx := HB2.out.size
  go_ret2
  refine ⟨(w2.alloc (.map #[] 0)).heap.size, A', c', w2.heap.size, by simp, ⟨⟨hbl, hAx, HX.out.2.2, by rw [HX.out.1]; exact h32, HX.out.2.1, ⟨.map [], hom, Nat.le_refl _, ⟨fun z _ _ => rfl, fun z c hz => by cases hz⟩⟩, fun z c hz => by cases hz⟩, ⟨.map [], hom, rfl⟩⟩, by simp; omega, hsx, hbx⟩
end Go.Proofs.Ytnipmijbncmmeaa


/- The two awake: the document's first examples. -/
namespace Go.Proofs.Ytnipmijbncmmeaa
open Go.RowKit Go.Maps
set_option maxRecDepth 100000
set_option linter.unusedVariables false

abbrev blkB (d : Nat) : Obj := .cells #[.int .u8 (d : Nat)] 5 (1, 2)
theorem litB (w : World) (d : Nat) (hd : d < 256) : Arg (w.alloc (blkB d)) (w.alloc (blkB d)).heap.size (some ⟨w.heap.size, 0, none⟩) 1 1 [d] := by
  refine ⟨rfl, Nat.le_refl _, by unfold maxLen; omega, by simpa using hd, by simp, fun _ => ⟨w.heap.size, 0, rfl, by simp, fun k hk => ?_⟩⟩
  obtain rfl : k = 0 := by omega
  unfold World.cell? World.alloc
  simp
theorem kcvA (w : World) (o : Obj) (C : Array Value) (n c : Nat) : (convert 23 23 (.slice (some ⟨w.heap.size + 1, 0, none⟩) n c)).run Try.prog ((w.alloc o).alloc (.cells C 5)) = .ok (.slice (some ⟨w.heap.size + 1, 0, none⟩) n c) ((w.alloc o).alloc (.cells C 5 (C.size, C.size + 1))) := by
  have h := Lib.run_convert_bytes_const (P := Try.prog) (w.alloc o) 23 5 C n c Try.underlying23 Try.underlying5
  rw [World.size_alloc] at h
  exact h
abbrev polA : PolM := ⟨1, 10, 20, 0⟩
abbrev polS : PolM := ⟨2, 0, 0, 2⟩
abbrev tabL : List PolM := [polA, polS]
theorem tab_ok : tabL.all polB = true := by decide
theorem eqRep (a b c d e : Int) (g : Bool) (w : World) : (binOp .eql 42 (.agg #[.int .i64 a, .bool g, .int .i64 b, .int .i64 c, .int .i64 d, .int .i64 e]) (.agg #[.int .i64 a, .bool g, .int .i64 b, .int .i64 c, .int .i64 d, .int .i64 e])).run Try.prog w = .ok (.bool true) w := by simp [go_sem, Result.andThen]
theorem eqBk (x : Nat) (w : World) : (binOp .eql 34 (.pointer (some ⟨x, 0, none⟩)) (.pointer none)).run Try.prog w = .ok (.bool false) w := rfl
theorem aw1 : cellM polA (getB (fun _ => none) [0, 97]) 1 1 100 0 = (⟨0, true, 2, 0, 0, 100⟩, ⟨110, []⟩, true) := by kernel_rfl
abbrev M0 : BkMap := fun _ => none
abbrev M1 : BkMap := putB M0 [0, 97] ⟨110, []⟩
abbrev M2 : BkMap := putB M1 [1, 107] ⟨0, [5]⟩
theorem aw2 : cellM polS (getB M1 [1, 107]) 2 0 0 5 = (⟨0, true, 1, 0, 5, 0⟩, ⟨0, [5]⟩, true) := by kernel_rfl
theorem aw3 : cellM polS (getB M2 [1, 107]) 3 6 0 0 = (⟨11, false, 0, 0, 0, 0⟩, ⟨0, []⟩, false) := by kernel_rfl
theorem awz1 : sizeB M0 [0, 97] (⟨0, true, 2, 0, 0, 100⟩, ⟨110, []⟩, true) 0 = 1 := by kernel_rfl
theorem awz2 : sizeB M1 [1, 107] (⟨0, true, 1, 0, 5, 0⟩, ⟨0, [5]⟩, true) 1 = 2 := by kernel_rfl
theorem awz3 : sizeB M2 [1, 107] (⟨11, false, 0, 0, 0, 0⟩, ⟨0, []⟩, false) 2 = 2 := by kernel_rfl
theorem awa3 : afterB M2 [1, 107] (⟨11, false, 0, 0, 0, 0⟩, ⟨0, []⟩, false) = M2 := rfl
set_option maxHeartbeats 6400000 in
theorem awake16_any (w : World) : Calls Try.prog 10 #[] w (ValEnd w (.bool true)) := by
  have kcv := fun (w : World) (C : Array Value) (n c : Nat) => Lib.run_convert_bytes_const (P := Try.prog) w 23 5 C n c Try.underlying23 Try.underlying5
  have kca := kcvA
  have heq := eqRep
  have hek := eqBk
  have hta : ArgC (w.alloc (.cells (FP tabL).toArray 52)) (w.alloc (.cells (FP tabL).toArray 52)).heap.size 4 (some ⟨w.heap.size, 0, none⟩) 2 2 (FP tabL) := by
    have h := World.ownsRow_lit (base := w.heap.size) (e := 52) (size := 4) w (FP tabL).toArray 2 (Nat.le_refl _) (by unfold maxLen; omega) (by rfl)
    exact (show OwnC _ w.heap.size 52 4 (some ⟨w.heap.size, 0, none⟩) 2 2 (FP tabL) from by simpa [OwnC] using h).arg
  have HT := Lib.hid (table_any w)
  have HN := Lib.hid (bnew_any _ w.heap.size 0 2 2 2 tabL hta (by omega) (by omega) tab_ok)
  clear hta
  go_enter Try.func10, Try.ntmps10
  go_wp2_with fail
  with_reducible refine HT.out.mono ?_
  rintro e w0 ⟨rfl, rfl⟩
  go_wp2_with fail
  refine HN.out.mono ?_
  rintro e w1 ⟨xb, A', c', mb, rfl, hx, h1, h2, hb⟩
  have HB1 := Lib.hid ((below_a1 w (.cells (FP tabL).toArray 52)).trans (hb.mono (by simp)))
  have hd := book_do (w1.alloc (blkB 97)) xb 2 c' 2 mb 0 1 0 1 1 100 A' (some ⟨w1.heap.size, 0, none⟩) tabL M0 1 0 [97] (hx.below (below_a1 _ _)) (by omega) (by decide) (by decide) (litB w1 97 (by omega)) (by omega) (fun _ => by decide) (by omega) (fun e => by omega) (by omega) (.inr (by omega))
  rw [show tabL.getD 0 noPol = polA from rfl, aw1, awz1] at hd
  have HD := Lib.hid (show Calls Try.prog 18 #[.pointer (some ⟨xb, 0, none⟩), .agg #[.int .u8 1, .int .i64 0, .slice (some ⟨w1.heap.size, 0, none⟩) 1 1, .int .i64 1], .int .i64 100, .int .i64 0] (w1.alloc (blkB 97)) (fun e w' => e = .returned (.agg #[.int .i64 0, .bool true, .int .i64 2, .int .i64 0, .int .i64 0, .int .i64 100]) ∧ BkX w' xb A' 2 c' tabL 2 mb 1 M1 ∧ Off [mb] (w1.alloc (blkB 97)) w') from hd)
  have hmw : w.heap.size < mb := by simp at h2; omega
  have HM := Lib.hid hmw
  clear hb hd hx h1 h2 HN HT hmw
  go_wp2_with fail
  refine HD.out.mono ?_
  rintro e w2 ⟨rfl, hx, hof⟩
  have HB2 := Lib.hid ((HB1.out.alloc HB1.out.size (blkB 97)).trans ((hof.below (B := w.heap.size) (by have := HB1.out.size; simp; omega) (by have := HM.out; simp; omega))))
  have hd := book_do ((w2.alloc (.cells #[.int .i64 0, .bool true, .int .i64 2, .int .i64 0, .int .i64 0, .int .i64 100] 42)).alloc (blkB 107)) xb 2 c' 2 mb 1 2 1 1 1 0 A' (some ⟨w2.heap.size + 1, 0, none⟩) tabL M1 0 5 [107] (hx.below (below_a2 _ _ _)) (by omega) (by decide) (by decide) (by have := litB (w2.alloc (.cells #[.int .i64 0, .bool true, .int .i64 2, .int .i64 0, .int .i64 0, .int .i64 100] 42)) 107 (by omega); rw [World.size_alloc w2] at this; exact this) (by omega) (fun e => by omega) (by omega) (fun _ => by omega) (by omega) (.inr (by omega))
  rw [show tabL.getD 1 noPol = polS from rfl, aw2, awz2] at hd
  have HD := Lib.hid (show Calls Try.prog 18 #[.pointer (some ⟨xb, 0, none⟩), .agg #[.int .u8 2, .int .i64 1, .slice (some ⟨w2.heap.size + 1, 0, none⟩) 1 1, .int .i64 0], .int .i64 0, .int .i64 5] ((w2.alloc (.cells #[.int .i64 0, .bool true, .int .i64 2, .int .i64 0, .int .i64 0, .int .i64 100] 42)).alloc (blkB 107)) (fun e w' => e = .returned (.agg #[.int .i64 0, .bool true, .int .i64 1, .int .i64 0, .int .i64 5, .int .i64 0]) ∧ BkX w' xb A' 2 c' tabL 2 mb 2 M2 ∧ Off [mb] ((w2.alloc (.cells #[.int .i64 0, .bool true, .int .i64 2, .int .i64 0, .int .i64 0, .int .i64 100] 42)).alloc (blkB 107)) w') from hd)
  clear hof hd HB1
  go_wp2_with fail
  refine HD.out.mono ?_
  clear HD
  rintro e w3 ⟨rfl, hx3, hof⟩
  have r1 := ((BlkL.new w2 [.int .i64 0, .bool true, .int .i64 2, .int .i64 0, .int .i64 0, .int .i64 100] 42).alloc (blkB 107)).off hof (by have := hx.lt; simp; omega)
  have hs2 := (below_a2 w2 (.cells #[.int .i64 0, .bool true, .int .i64 2, .int .i64 0, .int .i64 0, .int .i64 100] 42) (blkB 107)).size
  have HB3 := Lib.hid ((HB2.out.trans ((below_a2 w2 (.cells #[.int .i64 0, .bool true, .int .i64 2, .int .i64 0, .int .i64 0, .int .i64 100] 42) (blkB 107)).mono HB2.out.size)).trans (hof.below (B := w.heap.size) (Nat.le_trans HB2.out.size hs2) (by have := HM.out; simp; omega)))
  have hd := book_do ((w3.alloc (.cells #[.int .i64 0, .bool true, .int .i64 1, .int .i64 0, .int .i64 5, .int .i64 0] 42)).alloc (blkB 107)) xb 2 c' 2 mb 2 3 1 1 1 0 A' (some ⟨w3.heap.size + 1, 0, none⟩) tabL M2 6 0 [107] (hx3.below (below_a2 _ _ _)) (by omega) (by decide) (by decide) (by have := litB (w3.alloc (.cells #[.int .i64 0, .bool true, .int .i64 1, .int .i64 0, .int .i64 5, .int .i64 0] 42)) 107 (by omega); rw [World.size_alloc w3] at this; exact this) (by omega) (fun e => by omega) (by omega) (fun e => by omega) (by omega) (.inl rfl)
  rw [show tabL.getD 1 noPol = polS from rfl, aw3, awa3, awz3] at hd
  have HD := Lib.hid (show Calls Try.prog 18 #[.pointer (some ⟨xb, 0, none⟩), .agg #[.int .u8 3, .int .i64 1, .slice (some ⟨w3.heap.size + 1, 0, none⟩) 1 1, .int .i64 6], .int .i64 0, .int .i64 0] ((w3.alloc (.cells #[.int .i64 0, .bool true, .int .i64 1, .int .i64 0, .int .i64 5, .int .i64 0] 42)).alloc (blkB 107)) (fun e w' => e = .returned (.agg #[.int .i64 11, .bool false, .int .i64 0, .int .i64 0, .int .i64 0, .int .i64 0]) ∧ BkX w' xb A' 2 c' tabL 2 mb 2 M2 ∧ Off [mb] ((w3.alloc (.cells #[.int .i64 0, .bool true, .int .i64 1, .int .i64 0, .int .i64 5, .int .i64 0] 42)).alloc (blkB 107)) w') from hd)
  have HR1 := Lib.hid r1
  have HL2 := Lib.hid hx.lt
  clear hof hd HB2 hs2 r1
  go_wp2_with fail
  refine HD.out.mono ?_
  clear HD
  rintro e w4 ⟨rfl, hx4, hof⟩
  have r1 := ((HR1.out.alloc (.cells #[.int .i64 0, .bool true, .int .i64 1, .int .i64 0, .int .i64 5, .int .i64 0] 42)).alloc (blkB 107)).off hof (by have := HL2.out; simp; omega)
  have r2 := ((BlkL.new w3 [.int .i64 0, .bool true, .int .i64 1, .int .i64 0, .int .i64 5, .int .i64 0] 42).alloc (blkB 107)).off hof (by have := hx3.lt; simp; omega)
  have hs3 := (below_a2 w3 (.cells #[.int .i64 0, .bool true, .int .i64 1, .int .i64 0, .int .i64 5, .int .i64 0] 42) (blkB 107)).size
  have HB4 := Lib.hid ((HB3.out.trans ((below_a2 w3 (.cells #[.int .i64 0, .bool true, .int .i64 1, .int .i64 0, .int .i64 5, .int .i64 0] 42) (blkB 107)).mono HB3.out.size)).trans (hof.below (B := w.heap.size) (Nat.le_trans HB3.out.size hs3) (by have := HM.out; simp; omega)))
  have hx5 := hx4.below (below_a1 w4 (.cells #[.int .i64 11, .bool false, .int .i64 0, .int .i64 0, .int .i64 0, .int .i64 0] 42))
  have hln := hx5.e
  obtain ⟨D, hd1, hd2⟩ := hln
  have HLn := Lib.hid (blen_any (w4.alloc (.cells #[.int .i64 11, .bool false, .int .i64 0, .int .i64 0, .int .i64 0, .int .i64 0] 42)) xb mb 2 (hx5.r.blk.cell 2 _ rfl) (fun ty => by have := hd1.len Try.underlying69 ty; rw [hd2] at this; exact this))
  have r1c0 := r1.cell 0 _ rfl
  have r1c1 := r1.cell 1 _ rfl
  have r1c2 := r1.cell 2 _ rfl
  have r1c3 := r1.cell 3 _ rfl
  have r1c4 := r1.cell 4 _ rfl
  have r1c5 := r1.cell 5 _ rfl
  have r1l := r1.lt
  have r2c0 := r2.cell 0 _ rfl
  have r2c1 := r2.cell 1 _ rfl
  have r2c2 := r2.cell 2 _ rfl
  have r2c3 := r2.cell 3 _ rfl
  have r2c4 := r2.cell 4 _ rfl
  have r2c5 := r2.cell 5 _ rfl
  have r2l := r2.lt
  clear hx hx3 hx4 hx5 hd1 hd2 hof hs3 r1 r2 HR1 HL2 HB3
  go_wp2_with fail
  refine HLn.out.mono ?_
  rintro e w5 ⟨rfl, rfl⟩
  go_wp2
  go_ret
  exact ⟨rfl, HB4.out.alloc HB4.out.size _⟩
end Go.Proofs.Ytnipmijbncmmeaa
