/- guard's law: hooks are copied into lists of the law's own. -/
import Derived.Test.YtifldnkcheobhaaDoorGvA
namespace Go.Proofs.YtifldnkcheobhaaDoor
open Go.RowKit
set_option maxRecDepth 100000
set_option linter.unusedVariables false
set_option linter.unusedSimpArgs false
set_option maxHeartbeats 4000000

theorem ProgQ.mono' {w : World} {B B' : Nat} {Pa : Value} {p : List (List ActV)} (h : ProgQ w B Pa p) (hB : B ≤ B') : ProgQ w B' Pa p := by
  obtain ⟨A, c, h1, h2, h3⟩ := h
  refine ⟨A, c, h1, h2, fun a ha => ?_⟩
  obtain ⟨k1, k2, k3⟩ := h3 a ha
  refine ⟨k1, by omega, fun i f hf => ?_⟩
  obtain ⟨F, f1, A2, c2, g1, g2, g3⟩ := k3 i f hf
  refine ⟨F, f1, A2, c2, g1, g2, fun b hb => ?_⟩
  obtain ⟨e1, e2, e3, e4⟩ := g3 b hb
  exact ⟨e1, by omega, e3, e4⟩
/-- Hooks in memory, in blocks below B. -/
def HksQ (w : World) (B : Nat) (L : Value) (l : List HookV) : Prop :=
  ∃ (A : Option Addr) (c : Nat), L = .slice A l.length c ∧ (A = none → l = []) ∧ ∀ a, A = some a → a = ⟨a.block, a.off, none⟩ ∧ a.block < B ∧ ∀ (i : Nat) (h : HookV), l[i]? = some h → w.cell? ⟨a.block, a.off + i * 2, none⟩ = some (.string h.nm) ∧ ∃ Pv, w.cell? ⟨a.block, a.off + i * 2 + 1, none⟩ = some Pv ∧ ProgQ w B Pv h.p
theorem HksQ.below {w w' : World} {B : Nat} {L : Value} {l : List HookV} (h : HksQ w B L l) (hb : Below B w w') : HksQ w' B L l := by
  obtain ⟨A, c, h1, h2, h3⟩ := h
  refine ⟨A, c, h1, h2, fun a ha => ?_⟩
  obtain ⟨k1, k2, k3⟩ := h3 a ha
  refine ⟨k1, k2, fun i x hx => ?_⟩
  obtain ⟨g1, Pv, g2, g3⟩ := k3 i x hx
  exact ⟨(hb.cell (p := ⟨a.block, a.off + i * 2, none⟩) k2).trans g1, Pv, (hb.cell (p := ⟨a.block, a.off + i * 2 + 1, none⟩) k2).trans g2, g3.below hb⟩
theorem HksQ.mono {w : World} {B B' : Nat} {L : Value} {l : List HookV} (h : HksQ w B L l) (hB : B ≤ B') : HksQ w B' L l := by
  obtain ⟨A, c, h1, h2, h3⟩ := h
  refine ⟨A, c, h1, h2, fun a ha => ?_⟩
  obtain ⟨k1, k2, k3⟩ := h3 a ha
  refine ⟨k1, by omega, fun i x hx => ?_⟩
  obtain ⟨g1, Pv, g2, g3⟩ := k3 i x hx
  exact ⟨g1, Pv, g2, g3.mono' hB⟩
/-- Hooks that came in. -/
def HksW (w : World) (B : Nat) (L : Value) (l : List HookV) : Prop :=
  ∃ (A : Option Addr) (c : Nat), L = .slice A l.length c ∧ (A = none → l = []) ∧ ∀ a, A = some a → 0 < l.length → a = ⟨a.block, a.off, none⟩ ∧ a.block < B ∧ ∀ (i : Nat) (h : HookV), l[i]? = some h → w.cell? ⟨a.block, a.off + i * 2, none⟩ = some (.string h.nm) ∧ ∃ Pv, w.cell? ⟨a.block, a.off + i * 2 + 1, none⟩ = some Pv ∧ ProgW w B Pv h.p
theorem HksW.below {w w' : World} {B : Nat} {L : Value} {l : List HookV} (h : HksW w B L l) (hb : Below B w w') : HksW w' B L l := by
  obtain ⟨A, c, h1, h2, h3⟩ := h
  refine ⟨A, c, h1, h2, fun a ha h0 => ?_⟩
  obtain ⟨k1, k2, k3⟩ := h3 a ha h0
  refine ⟨k1, k2, fun i x hx => ?_⟩
  obtain ⟨g1, Pv, g2, g3⟩ := k3 i x hx
  exact ⟨(hb.cell (p := ⟨a.block, a.off + i * 2, none⟩) k2).trans g1, Pv, (hb.cell (p := ⟨a.block, a.off + i * 2 + 1, none⟩) k2).trans g2, g3.below hb⟩
/-- The law's own list of hooks as far as it is made. -/
def HksN (w : World) (B : Nat) (A : Option Addr) (c : Nat) (vs : List Value) (l : List HookV) : Prop :=
  OwnS w B 2 A l.length c vs ∧ ∀ (i : Nat) (h : HookV), l[i]? = some h → ∃ Pv lo hi, vs[i * 2]? = some (.string h.nm) ∧ vs[i * 2 + 1]? = some Pv ∧ ProgI w lo hi Pv h.p ∧ B ≤ lo ∧ hi ≤ w.heap.size ∧ ∀ y ∈ bkV A, y < lo ∨ hi ≤ y
theorem HksN.below {w w' : World} {B c : Nat} {A : Option Addr} {vs : List Value} {l : List HookV} (h : HksN w B A c vs l) (hb : Below w.heap.size w w') : HksN w' B A c vs l := by
  obtain ⟨h1, h2⟩ := h
  refine ⟨h1.below hb, fun i x hx => ?_⟩
  obtain ⟨Pv, lo, hi, g1, g2, g3, g4, g5, g6⟩ := h2 i x hx
  exact ⟨Pv, lo, hi, g1, g2, g3.off g5 (Off.of_below (S := []) hb) (by simp), g4, Nat.le_trans g5 hb.size, g6⟩
theorem HksN.snoc {w w' : World} {B c c' lo hi : Nat} {A A' : Option Addr} {vs : List Value} {l : List HookV} {x : HookV} {Pv : Value} (h : HksN w B A c vs l) (hp : ProgI w lo hi Pv x.p) (hl : B ≤ lo) (hh : hi ≤ w.heap.size) (hn : ∀ y ∈ bkV A, y < lo ∨ hi ≤ y)
    (hvs : OwnS w' B 2 A' (l.length + 1) c' (vs ++ [.string x.nm, Pv])) (ho : Off (bkV A) w w') (hk : ∀ y ∈ bkV A', y ∈ bkV A ∨ w.heap.size ≤ y) : HksN w' B A' c' (vs ++ [.string x.nm, Pv]) (l ++ [x]) := by
  obtain ⟨h1, h3⟩ := h
  have hl2 : vs.length = l.length * 2 := h1.len
  have keep : ∀ lo hi Pv p, ProgI w lo hi Pv p → hi ≤ w.heap.size → (∀ y ∈ bkV A, y < lo ∨ hi ≤ y) → ProgI w' lo hi Pv p ∧ hi ≤ w'.heap.size ∧ ∀ y ∈ bkV A', y < lo ∨ hi ≤ y := fun lo hi Pv p hG hb hGn =>
    ⟨hG.off hb ho hGn, Nat.le_trans hb ho.size, fun y hy => by rcases hk y hy with e | e; exact hGn y e; exact Or.inr (Nat.le_trans hb e)⟩
  refine ⟨by rw [List.length_append]; exact hvs, fun i g hg => ?_⟩
  rcases Nat.lt_or_ge i l.length with hi' | hi'
  · rw [List.getElem?_append_left hi'] at hg
    obtain ⟨Qv, lo', hi2, g1, g2, g3, g4, g5, g6⟩ := h3 i g hg
    obtain ⟨q1, q2, q3⟩ := keep _ _ _ _ g3 g5 g6
    exact ⟨Qv, lo', hi2, by rw [List.getElem?_append_left (by omega)]; exact g1, by rw [List.getElem?_append_left (by omega)]; exact g2, q1, g4, q2, q3⟩
  · rw [List.getElem?_append_right hi'] at hg
    obtain ⟨e1, e2⟩ : i = l.length ∧ x = g := by
      cases hq : i - l.length with
      | zero => rw [hq] at hg; simp at hg; exact ⟨by omega, hg⟩
      | succ j => rw [hq] at hg; simp at hg
    subst e1 e2
    obtain ⟨q1, q2, q3⟩ := keep _ _ _ _ hp hh hn
    exact ⟨Pv, lo, hi, by rw [List.getElem?_append_right (by omega), hl2]; simp, by rw [List.getElem?_append_right (by omega), hl2, show l.length * 2 + 1 - l.length * 2 = 1 by omega]; rfl, q1, hl, q2, q3⟩
theorem HksN.q {w : World} {B c : Nat} {A : Option Addr} {vs : List Value} {l : List HookV} (h : HksN w B A c vs l) : HksQ w w.heap.size (.slice A l.length c) l := by
  obtain ⟨h1, h3⟩ := h
  refine ⟨A, c, rfl, fun e => List.eq_nil_of_length_eq_zero (h1.none_ e).1, fun a ha => ?_⟩
  obtain ⟨k1, k2, k3, k4, k5⟩ := h1.at_ a ha
  refine ⟨k1, k3, fun i x hx => ?_⟩
  obtain ⟨Pv, lo, hi, g1, g2, g3, g4, g5, g6⟩ := h3 i x hx
  exact ⟨k5 _ _ g1, Pv, by rw [Nat.add_assoc]; exact k5 _ _ g2, g3.q g5 g5⟩
theorem HksN.nil (w : World) (B : Nat) : HksN w B none 0 [] [] := ⟨OwnS.nil _ _ _, fun i f hf => by simp at hf⟩
def HksS (l : List HookV) : Prop := l.length * 40 ≤ 140737488355328 ∧ ∀ x ∈ l, ProgS x.p
theorem hook_info : (Tryd.prog.info? 81).map (fun i => (i.zero, i.size, i.bytes)) = some (some (.agg #[.string ⟨#[]⟩, .slice none 0 0]), 2, 40) := by kernel_rfl
theorem info_partsHook : ∃ i0, Tryd.prog.info? 81 = some i0 ∧ i0.zero = some (.agg #[.string ⟨#[]⟩, .slice none 0 0]) ∧ i0.size = 2 ∧ i0.bytes = 40 := by
  have h := hook_info
  cases hh : Tryd.prog.info? 81 with
  | none => rw [hh] at h; cases h
  | some i0 =>
    rw [hh] at h
    simp only [Option.map_some, Option.some.injEq, Prod.mk.injEq] at h
    exact ⟨i0, rfl, h.1, h.2.1, h.2.2⟩
theorem hooks10_any (w : World) (B : Nat) (L : Value) (l : List HookV) (h : HksW w B L l) (hB : B ≤ w.heap.size) (hr : HksS l) :
    Calls Tryd.prog 16 #[L] w fun e w' => ∃ A c, e = .returned (.slice A l.length c) ∧ (∃ vs, HksN w' w.heap.size A c vs l) ∧ Below w.heap.size w w' := by
  obtain ⟨iH, hiH, hH0, hH1, hH2⟩ := info_partsHook
  obtain ⟨LA, lc, rfl, h2, h3⟩ := h
  obtain ⟨hr1, hr2⟩ := hr
  have H3 := Lib.hid h3
  have H2 := Lib.hid h2
  have HR := Lib.hid hr2
  clear h2 h3 hr2
  go_enter Tryd.func16, Tryd.ntmps16
  go_wp2_with fail
  go_loopw [3, 8] (fun lv iv wr => ∃ i : Nat, i ≤ l.length ∧ iv = .int .i64 (i : Int) ∧ ∃ A c vs, lv = .slice A i c ∧ HksN wr w.heap.size A c vs (l.take i) ∧ Below w.heap.size w wr) (fun _ iv _ => l.length - (intOf iv).toNat)
  case atStart => exact ⟨0, Nat.zero_le _, rfl, none, 0, [], rfl, HksN.nil _ _, Below.refl _ _⟩
  case round =>
    obtain ⟨i, hi, rfl, A, c, vs, rfl, hN, hb⟩ := hrel
    have HN := Lib.hid hN
    have HB := Lib.hid hb
    rcases Nat.lt_or_ge i l.length with h1 | h1
    · have hii : (i : Int) < (l.length : Int) := by omega
      have hi1 : IntKind.i64.wrap ((i : Int) + 1) = ((i + 1 : Nat) : Int) := by rw [IntWalk.i64_in _ (by omega)]; omega
      cases LA with
      | none => rw [H2.out rfl] at h1; simp at h1
      | some a =>
        obtain ⟨ha, hab, hcl⟩ := H3.out a rfl (by omega)
        obtain ⟨x, hx⟩ : ∃ x, l[i]? = some x := ⟨l[i], List.getElem?_eq_getElem h1⟩
        obtain ⟨hF1, Pv, hF2, hF3⟩ := hcl i x hx
        obtain ⟨fb, fo, rfl⟩ : ∃ fb fo, a = ⟨fb, fo, none⟩ := ⟨_, _, ha⟩
        simp only at hF1 hF2 hab
        have y0 := (hb.cell (p := ⟨fb, fo + i * 2, none⟩) (by show fb < _; omega)).trans hF1
        have y1 := (hb.cell (p := ⟨fb, fo + i * 2 + 1, none⟩) (by show fb < _; omega)).trans hF2
        have hps := HR.out x (List.mem_of_getElem? hx)
        have htk : l.take (i + 1) = l.take i ++ [x] := by
          rw [List.take_succ_eq_append_getElem h1]
          rw [List.getElem?_eq_getElem h1] at hx
          injection hx with hx
          rw [hx]
        have HTK := Lib.hid htk
        have hpl : (l.take i).length = i := by rw [List.length_take]; omega
        have HPL := Lib.hid hpl
        obtain ⟨PA, pc, rfl⟩ : ∃ PA pc, Pv = .slice PA x.p.length pc := by obtain ⟨A, c, h, _⟩ := hF3; exact ⟨A, c, h⟩
        obtain ⟨nm, pp⟩ := x
        simp only at hF1 hF2 hF3 y0 y1 hps
        have b4 := (Below.refl wr.heap.size wr).alloc (Nat.le_refl _) (.cells #[.string nm, .slice PA pp.length pc] 53)
        have b04 : Below w.heap.size w (wr.alloc (.cells #[.string nm, .slice PA pp.length pc] 53)).drew := hb.trans (b4.drew.mono hb.size)
        have HP := Lib.hid (prog10_any (wr.alloc (.cells #[.string nm, .slice PA pp.length pc] 53)).drew B _ pp (hF3.below (b04.mono hB)) (Nat.le_trans hB b04.size) hps)
        have KH := Lib.hid (BlkL.new wr [.string nm, .slice PA pp.length pc] 53).drew
        have hsz4 : (wr.alloc (.cells #[.string nm, .slice PA pp.length pc] 53)).drew.heap.size = wr.heap.size + 1 := by simp
        have HMID : Hid (∀ (w7 : World) (A' : Option Addr) (c' : Nat), ProgI w7 (wr.alloc (.cells #[.string nm, .slice PA pp.length pc] 53)).drew.heap.size w7.heap.size (.slice A' pp.length c') pp → Below (wr.alloc (.cells #[.string nm, .slice PA pp.length pc] 53)).drew.heap.size (wr.alloc (.cells #[.string nm, .slice PA pp.length pc] 53)).drew w7 →
            BlkL w7 wr.heap.size [.string nm, .slice PA pp.length pc] ∧ HksN (w7.alloc (.cells #[.string nm, .slice A' pp.length c'] 81)) w.heap.size A c vs (l.take i) ∧ SrcS (w7.alloc (.cells #[.string nm, .slice A' pp.length c'] 81)) 2 (some ⟨w7.heap.size, 0, none⟩) 1 [.string nm, .slice A' pp.length c'] ∧ w.heap.size ≤ (w7.alloc (.cells #[.string nm, .slice A' pp.length c'] 81)).heap.size ∧
            ProgI (w7.alloc (.cells #[.string nm, .slice A' pp.length c'] 81)) (wr.heap.size + 1) w7.heap.size (.slice A' pp.length c') pp ∧ wr.heap.size + 1 ≤ w7.heap.size ∧ Below w.heap.size w (w7.alloc (.cells #[.string nm, .slice A' pp.length c'] 81))) := Lib.hid (by
          intro w7 A' c' hq hb7
          rw [hsz4] at hq
          have b8 := (Below.refl w7.heap.size w7).alloc (Nat.le_refl _) (.cells #[.string nm, .slice A' pp.length c'] 81)
          have b48 := b4.drew.trans ((hb7.trans (b8.mono hb7.size)).mono b4.drew.size)
          have bw := hb.trans (b48.mono hb.size)
          exact ⟨KH.out.below hb7, hN.below b48, srcOne w7 _ _ rfl rfl _, bw.size, hq.off (Nat.le_refl _) (Off.of_below (S := []) b8) (by simp), by have := hb7.size; omega, bw⟩)
        clear hcl ha htk hx hF1 hF2 hF3 hN hb hpl b4 b04
        go_upto_region 5 with (fail)
        have q0 := KH.out.cell 0 _ rfl
        have q1 := KH.out.cell 1 _ rfl
        go_region_law (first
          | (refine step_append_s Tryd.underlying46 hiH hH0 hH1 hH2 rfl rfl (.tmp 12) (.tmp 19) rfl rfl (by have := HO2.out.2.1.1; rw [HPL.out] at this; exact this) _ 1 1 _ rfl HO2.out.2.2.1 (fun e => by cases e) (by omega) (by omega) HO2.out.2.2.2.1 ?_; intro A3 c3 w8 ho3 hg3 hb3; have HO3 := Lib.hid (And.intro ho3 (And.intro hg3 hb3)); clear ho3 hg3 hb3)
          | (go_simp; with_reducible refine (HP.out).mono ?_; rintro e w7 ⟨A', c', rfl, ho7, hb7⟩; have HO2 := Lib.hid (HMID.out w7 A' c' ho7 hb7); have q2 := HO2.out.1.cell 0 _ rfl; have q3 := HO2.out.1.cell 1 _ rfl; clear ho7 hb7))
        all_goals
          have hnew : HksN w8 w.heap.size A3 c3 (vs ++ [.string nm, .slice A' pp.length c']) (l.take (i + 1)) := by
            rw [HTK.out]
            refine HksN.snoc (x := ⟨nm, pp⟩) HO2.out.2.1 HO2.out.2.2.2.2.1 (by have := HB.out.size; omega) (by simp) (fun y hy => Or.inl ?_) (by rw [HPL.out]; exact HO3.out.1) HO3.out.2.1 (fun y hy => (HO3.out.2.2 y hy).elim Or.inl (fun q => Or.inr (by rw [q.1]; simp)))
            have := (HN.out.1.lt y hy).2
            omega
          have HNW := Lib.hid hnew
          have HB8 : Hid (Below w.heap.size w w8) := Lib.hid (HO2.out.2.2.2.2.2.2.trans (HO3.out.2.1.below HO2.out.2.2.2.1 (fun y hy => (HN.out.1.lt y hy).1)))
          clear hnew q2 q3
          go_wp2
          go_roundw
          case rel => exact ⟨i + 1, by omega, rfl, A3, c3, _, rfl, HNW.out, HB8.out⟩
          case measure => simp [intOf]; omega
    · obtain rfl : i = l.length := by omega
      have hii : ¬ (l.length : Int) < (l.length : Int) := by omega
      have hq := hN
      rw [List.take_length] at hq
      have HQ := Lib.hid hq
      clear hq hN hb
      go_wp2
      go_ret
      exact ⟨A, c, rfl, ⟨vs, HQ.out⟩, HB.out⟩
end Go.Proofs.YtifldnkcheobhaaDoor
