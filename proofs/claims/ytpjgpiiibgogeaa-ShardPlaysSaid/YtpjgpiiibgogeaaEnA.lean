/- Contract: Entries of a shard. -/
import Derived.Test.YtpjgpiiibgogeaaRfC
import Derived.Deep.AppendLies
import Derived.Deep.RegionLaw
import Derived.BigRegion
namespace Go.Proofs.Ytpjgpiiibgogeaa
open Go.RowKit
set_option maxRecDepth 100000
set_option linter.unusedVariables false

/-- An append of one entry, in a region that draws its order. -/
theorem step_append_ent {w : World} {ops : Array Oper} {o : Oper} {a : Act} {K : Act → World → Prop} {Q : Exit → Act → World → Prop} {E : Prop} (hgd : o.guard = none) (s x : Operand)
    (ho : o.op = .call { callee := .builtin .append, args := #[s, x], argTypes := #[87, 87] })
    (base : Nat) (A : Option Addr) (n c : Nat) (cs : List Value) (hs : a.eval s = .slice A n c) (hown : OwnC w base TE 2 A n c cs)
    (g m : Nat) (vs : List Value) (hx : a.eval x = .slice (some ⟨g, 0, none⟩) 1 m) (hvs : vs.length = 2) (hc : BlkL w g vs) (h1 : ∀ u ∈ vs, u.oneCell' = true) (hn : n + 1 ≤ 1000000) (hbase : base ≤ w.heap.size)
    (h : ∀ A' c' w', OwnC w' base TE 2 A' (n + 1) c' (cs ++ vs) → w.grownBy w' (Value.slice A n c).ownBlock → Below base w w' → K (a.put o.dst (.slice A' (n + 1) c')) w') :
    if Region.wanted o (yielded ops a.tmps) = true then Oper.wp Try.prog o a w K Q else E := by
  obtain ⟨i0, hi, hz0, hz1, hz2⟩ := info_parts ent_info
  have hlt := fun k hk => (World.ownsRow.lt hown k hk).1
  refine step_append_lies w hgd s x 87 ho base TE i0 zE 2 32 Try.underlying87 hi hz0 hz1 hz2 rfl (by decide) _ n _ hs hown ⟨g, 0, none⟩ 1 m vs hx (by omega) (fun j u hj => ?_) h1 (by omega) (by unfold maxLen; omega) (by omega) hbase w.heap.size rfl ?_
  · have e2 : (⟨g, 0, none⟩ : Addr).add j = ⟨g, j, none⟩ := by unfold Addr.add; split <;> simp_all
    rw [e2]; exact hc.cell j u hj
  · intro g' cap' w' h2 h3 h4 h5
    exact h _ _ _ h2 h3 ((Below.refl _ _).grown h3 hbase hlt)
/-- Bytes of the call's own stay, where a row of entries grows. -/
theorem OwnB.grown {w w' : World} {B n c : Nat} {A : Option Addr} {zs : List Nat} {row : Option Nat} (h : OwnB w B A n c zs) (hg : w.grownBy w' row) (hr : ∀ g, row = some g → ∃ cur fr, w.heap[g]? = some (.cells cur TE fr)) : OwnB w' B A n c zs := by
  refine ⟨?_, h.2⟩
  rcases h.1 with ⟨h0, h | ⟨g, cap, cur, h1, h2, h3, h4⟩⟩
  · exact ⟨h0, .inl h⟩
  · refine ⟨h0, .inr ⟨g, cap, cur, h1, h2, ?_, h4⟩⟩
    rw [hg.block g (lt_of_block h3) (fun e => ?_)]
    · exact h3
    · obtain ⟨cur', fr, h5⟩ := hr g e.symm
      rw [h3] at h5
      injection h5 with h5
      injection h5 with _ h5 _
      exact absurd h5 (by decide)
theorem OwnC.row {w : World} {B n c : Nat} {A : Option Addr} {cs : List Value} (h : OwnC w B TE 2 A n c cs) : ∀ g, (Value.slice A n c).ownBlock = some g → ∃ cur fr, w.heap[g]? = some (.cells cur TE fr) := by
  intro g hg
  rcases h.2 with ⟨h1, _⟩ | ⟨g', cap, cur, h1, h2, h3, _⟩
  · injection h1 with h1; subst h1; simp [Value.ownBlock] at hg
  · injection h1 with h1; subst h1; simp [Value.ownBlock] at hg; subst hg; exact ⟨cur, _, h3⟩
theorem OwnB.alloc {w : World} {B n c : Nat} {A : Option Addr} {zs : List Nat} (h : OwnB w B A n c zs) (o : Obj) : OwnB (w.alloc o) B A n c zs := h.below ((Below.refl _ _).alloc (Nat.le_refl _) _)

/-- How Entries ends: entries of its own. -/
def EntEnd (w : World) (l : List Ent) (e : Ending) (w' : World) : Prop :=
  ∃ A c es, e = .returned (.slice A l.length c) ∧ OwnC w' w.heap.size TE 2 A l.length c (KVs es) ∧ es.map KV.ent = l ∧ (∀ e ∈ es, OwnB w' w.heap.size e.A e.n e.c e.zs ∧ e.n ≤ 256) ∧ Below w.heap.size w w'
/-- Behind a copy of the key and the row of one entry. -/
theorem ent_mid {wr w2 : World} {B n c xn c' : Nat} {A A' : Option Addr} {fs : List KV} {xz : List Nat} {xv : Int} {o : Obj} {w : World} (hbw : Below B w wr) (hB : B ≤ wr.heap.size) (hown : OwnC wr B TE 2 A n c (KVs fs)) (hk : ∀ e ∈ fs, OwnB wr B e.A e.n e.c e.zs ∧ e.n ≤ 256)
    (ho2 : OwnB w2 (wr.alloc o).drew.heap.size A' xn c' xz) (hb2 : Below (wr.alloc o).drew.heap.size (wr.alloc o).drew w2) (hx : xn ≤ 256) :
    OwnC (w2.alloc (.cells #[.slice A' xn c', .int .i64 xv] TE)) B TE 2 A n c (KVs fs) ∧ BlkL (w2.alloc (.cells #[.slice A' xn c', .int .i64 xv] TE)) w2.heap.size [.slice A' xn c', .int .i64 xv] ∧
      (∀ e ∈ fs ++ [⟨A', xn, c', xz, xv⟩], OwnB (w2.alloc (.cells #[.slice A' xn c', .int .i64 xv] TE)) B e.A e.n e.c e.zs ∧ e.n ≤ 256) ∧ Below B w (w2.alloc (.cells #[.slice A' xn c', .int .i64 xv] TE)) := by
  have hs : (wr.alloc o).drew.heap.size = wr.heap.size + 1 := by show (wr.alloc o).heap.size = _; simp
  have b1 : Below wr.heap.size wr w2 := ((Below.refl _ _).alloc (Nat.le_refl _) o).drew.trans (hb2.mono (by omega))
  have hs2 := b1.size
  have b3 := b1.alloc hs2 (.cells #[.slice A' xn c', .int .i64 xv] TE)
  have b4 := (hbw.trans (b1.mono hB)).alloc (by omega) (.cells #[.slice A' xn c', .int .i64 xv] TE)
  refine ⟨hown.below b3, BlkL.new w2 [.slice A' xn c', .int .i64 xv] TE, fun e he => ?_, b4⟩
  rcases List.mem_append.1 he with he | he
  · exact ⟨(hk e he).1.below b3, (hk e he).2⟩
  · obtain rfl := List.mem_singleton.1 he
    exact ⟨(ho2.mono (by omega)).alloc _, hx⟩
set_option maxHeartbeats 12800000 in
theorem entries_any (w : World) (s b bw : Nat) (X : List Nat) (k v : Nat) (A : Option Addr) (n c : Nat) (es : List KV) (fv : Nat → Value) (nx : Nat → Nx) (ring : List Value) (h : ShR w s b bw X k v A n c es fv nx ring) :
    Calls Try.prog 42 #[.pointer (some ⟨s, 0, none⟩)] w (EntEnd w (es.map KV.ent)) := by
  have hl := h.ver.len
  have hln := h.wf.len
  rw [List.length_map, hl] at hln
  have hle := h.ver.arg.le
  have hcap := h.ver.arg.cap
  unfold maxLen at hcap
  have c1 := h.c1
  have ls := h.lts.1
  have HV := Lib.hid h.ver
  have HLEN := Lib.hid hl
  have hll : (es.map KV.ent).length = n := by rw [List.length_map, hl]
  clear h hl
  obtain ⟨i0, hi, hz0, hz1, hby⟩ := info_parts ent_info
  have hnm : n ≤ maxLen := by unfold maxLen; omega
  have hnb : i0.bytes * n ≤ 281474976710656 := by
    have : i0.bytes ≤ 1000000 := by omega
    exact Nat.le_trans (Nat.mul_le_mul this hln) (by decide)
  go_enter Try.func42, Try.ntmps42
  go_wp2_with (refine wpList_make_own _ rfl _ _ 87 rfl w.heap.size TE i0 zE 2 Try.underlying87 hi hz0 hz1 _ _ _ n rfl rfl rfl (by omega) (by omega) (Nat.le_refl _) ?_)
  intro w1 ho1 hg1
  have hb1 : Below w.heap.size w w1 := (Below.refl _ _).grown hg1 (Nat.le_refl _) (fun k hk => by cases hk)
  have c2 := (hb1.cell ls).trans c1
  have hsz1 := hb1.size
  have HO1 := Lib.hid ho1
  have HB1 := Lib.hid hb1
  clear ho1 hg1 hb1 c1 hi hz0 hz1
  go_wp2
  go_loopw [3, 19] (fun ov iv wr => ∃ (i : Nat) (A2 : Option Addr) (cc : Nat) (fs : List KV), i ≤ n ∧ iv = .int .i64 (i : Int) ∧ ov = .slice A2 i cc ∧ fs.length = i ∧ fs.map KV.ent = (es.map KV.ent).take i ∧ OwnC wr w.heap.size TE 2 A2 i cc (KVs fs) ∧ (∀ e ∈ fs, OwnB wr w.heap.size e.A e.n e.c e.zs ∧ e.n ≤ 256) ∧ Below w.heap.size w wr) (fun _ iv _ => n - (intOf iv).toNat)
  case atStart => exact ⟨0, _, _, [], Nat.zero_le _, rfl, rfl, rfl, by simp, HO1.out, by simp, HB1.out⟩
  case round =>
    obtain ⟨i, A2, cc, fs, hi, rfl, rfl, hfl, hfe, hown, hk, hbw⟩ := hrel
    have hsz := hbw.size
    rcases Nat.lt_or_ge i n with hlt | hge
    · obtain ⟨g, off, rfl, hgB, hc0, hc1⟩ := (HV.out.below hbw).at_ (i := i) hlt
      have hy := HV.out.key _ (kv_mem (i := i) (by rw [HLEN.out]; exact hlt))
      have hye := ent_at es i (by rw [HLEN.out]; exact hlt)
      have hte : (es.map KV.ent).take (i + 1) = (es.map KV.ent).take i ++ [(es.map KV.ent).getD i noE] := by
        rw [List.take_add_one, List.getElem?_eq_getElem (by rw [hll]; exact hlt), List.getD_eq_getElem?_getD, List.getElem?_eq_getElem (by rw [hll]; exact hlt)]; rfl
      rw [hye] at hte
      generalize es.getD i noKV = y at *
      obtain ⟨xA, xn, xc, xz, xv⟩ := y
      simp only at hc0 hc1 hy hte
      have hb2 : Below w.heap.size w (wr.alloc (.cells #[.slice xA xn xc, .int .i64 xv] TE)).drew := (hbw.alloc hbw.size _).drew
      have HX := Lib.hid (clone_any (wr.alloc (.cells #[.slice xA xn xc, .int .i64 xv] TE)).drew w.heap.size xA xn xc xz (hy.1.below hb2) (by have := hb2.size; omega) (by omega))
      have hx6 := hy.2.2
      have KB := Lib.hid (BlkL.new wr [.slice xA xn xc, .int .i64 xv] TE).drew
      have HMID := Lib.hid (fun (w2 : World) (A' : Option Addr) (c' : Nat) ho2 hb2 => ent_mid (w2 := w2) (A' := A') (c' := c') (xz := xz) (xv := xv) (o := .cells #[.slice xA xn xc, .int .i64 xv] TE) hbw hsz hown hk ho2 hb2 hx6)
      have HFE : Hid (fs.length = i ∧ ∀ A' c', (fs ++ [(⟨A', xn, c', xz, xv⟩ : KV)]).map KV.ent = (es.map KV.ent).take (i + 1)) := Lib.hid ⟨hfl, fun A' c' => by rw [hte, List.map_append, hfe]; rfl⟩
      have j0 : (0 : Int) ≤ (i : Int) := by omega
      have j1 : (i : Int) < (n : Int) := by omega
      clear hown hk hb2 hy hye hte hfe hfl
      go_wp2_with fail
      go_region_law (first
        | (refine step_append_ent rfl (.tmp 23) (.tmp 30) rfl w.heap.size A2 i cc (KVs fs) rfl HO2.out.1 w2.heap.size 1 [.slice A' xn c', .int .i64 xv] rfl rfl HO2.out.2.1 (by simp [Value.oneCell']) (by omega) (by rw [World.size_alloc]; omega) ?_; intro A3 c3 w3 ho3 hg3 hb3; have HO3 := Lib.hid (And.intro ho3 (And.intro hg3 hb3)); clear ho3 hg3 hb3)
        | (go_simp; with_reducible refine (HX.out).mono ?_; rintro e w2 ⟨A', c', rfl, ho2, hb2⟩; have hs2 := hb2.size; have hs3 : w.heap.size ≤ w2.heap.size := (by have h := hs2; simp at h; omega); have kb := KB.out.below hb2; have k1 := kb.cell 1 _ rfl; have HO2 := Lib.hid (HMID.out w2 A' c' ho2 hb2); clear kb ho2 hb2))
      all_goals
        go_wp2
        go_roundw
        case rel => exact ⟨i + 1, A3, c3, fs ++ [⟨A', xn, c', xz, xv⟩], by omega, by go_num, rfl, by rw [List.length_append, HFE.out.1]; rfl, HFE.out.2 A' c', by rw [KVs_append]; exact HO3.out.1, fun e he => ⟨((HO2.out.2.2.1 e he).1).grown HO3.out.2.1 (OwnC.row HO2.out.1), (HO2.out.2.2.1 e he).2⟩, HO2.out.2.2.2.trans HO3.out.2.2⟩
        case measure => simp [intOf]; omega
    · obtain rfl : i = n := by omega
      have j1 : ¬ (i : Int) < (i : Int) := by omega
      have HOK := Lib.hid (And.intro hown (And.intro hk hbw))
      have HFE := Lib.hid hfe
      clear hown hk hfe
      go_wp2
      go_ret
      refine ⟨A2, cc, fs, by rw [hll]; rfl, by rw [hll]; exact HOK.out.1, by rw [HFE.out, List.take_of_length_le (by omega)], HOK.out.2.1, HOK.out.2.2⟩
end Go.Proofs.Ytpjgpiiibgogeaa
