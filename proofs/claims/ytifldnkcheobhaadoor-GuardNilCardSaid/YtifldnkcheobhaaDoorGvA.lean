/- guard's law: a program is copied into lists of the law's own. -/
import Derived.Test.YtifldnkcheobhaaDoorGvM
import Derived.Test.YtifldnkcheobhaaDoorLwA
import Derived.Test.YtifldnkcheobhaaDoorRvC
import Derived.Test.YtifldnkcheobhaaDoorFuW
namespace Go.Proofs.YtifldnkcheobhaaDoor
open Go.RowKit
set_option maxRecDepth 100000
set_option linter.unusedVariables false
set_option linter.unusedSimpArgs false
set_option maxHeartbeats 4000000

/-- A function's acts in blocks from lo to hi. -/
def ActI (w : World) (lo hi : Nat) (F : Value) (f : List ActV) : Prop :=
  ∃ (A : Option Addr) (c : Nat), F = .slice A f.length c ∧ (A = none → f = []) ∧ ∀ a, A = some a → a = ⟨a.block, a.off, none⟩ ∧ lo ≤ a.block ∧ a.block < hi ∧ ∀ (j : Nat) (x : ActV), f[j]? = some x → w.cell? ⟨a.block, a.off + j * 2, none⟩ = some (.int .u8 (x.1 : Int)) ∧ w.cell? ⟨a.block, a.off + j * 2 + 1, none⟩ = some (.int .i64 x.2)
def ProgI (w : World) (lo hi : Nat) (Pa : Value) (p : List (List ActV)) : Prop :=
  ∃ (A : Option Addr) (c : Nat), Pa = .slice A p.length c ∧ (A = none → p = []) ∧ ∀ a, A = some a → a = ⟨a.block, a.off, none⟩ ∧ lo ≤ a.block ∧ a.block < hi ∧ ∀ i f, p[i]? = some f → ∃ F, w.cell? ⟨a.block, a.off + i, none⟩ = some F ∧ ActI w lo hi F f
theorem ActI.off {w w' : World} {lo hi : Nat} {F : Value} {f : List ActV} {S : List Nat} (h : ActI w lo hi F f) (hh : hi ≤ w.heap.size) (ho : Off S w w') (hS : ∀ y ∈ S, y < lo ∨ hi ≤ y) : ActI w' lo hi F f := by
  obtain ⟨A, c, h1, h2, h3⟩ := h
  refine ⟨A, c, h1, h2, fun a ha => ?_⟩
  obtain ⟨k1, k2, k3, k4⟩ := h3 a ha
  refine ⟨k1, k2, k3, fun j x hx => ?_⟩
  have hn : a.block ∉ S := fun e => by rcases hS _ e with h | h <;> omega
  rw [ho.cell (p := ⟨a.block, a.off + j * 2, none⟩) (by show a.block < _; omega) hn, ho.cell (p := ⟨a.block, a.off + j * 2 + 1, none⟩) (by show a.block < _; omega) hn]
  exact k4 j x hx
theorem ProgI.off {w w' : World} {lo hi : Nat} {Pa : Value} {p : List (List ActV)} {S : List Nat} (h : ProgI w lo hi Pa p) (hh : hi ≤ w.heap.size) (ho : Off S w w') (hS : ∀ y ∈ S, y < lo ∨ hi ≤ y) : ProgI w' lo hi Pa p := by
  obtain ⟨A, c, h1, h2, h3⟩ := h
  refine ⟨A, c, h1, h2, fun a ha => ?_⟩
  obtain ⟨k1, k2, k3, k4⟩ := h3 a ha
  have hn : a.block ∉ S := fun e => by rcases hS _ e with h | h <;> omega
  refine ⟨k1, k2, k3, fun i f hf => ?_⟩
  obtain ⟨F, q1, q2⟩ := k4 i f hf
  exact ⟨F, (ho.cell (p := ⟨a.block, a.off + i, none⟩) (by show a.block < _; omega) hn).trans q1, q2.off hh ho hS⟩
theorem ActI.wide {w : World} {lo hi lo' hi' : Nat} {F : Value} {f : List ActV} (h : ActI w lo hi F f) (h1 : lo' ≤ lo) (h2 : hi ≤ hi') : ActI w lo' hi' F f := by
  obtain ⟨A, c, k1, k2, k3⟩ := h
  refine ⟨A, c, k1, k2, fun a ha => ?_⟩
  obtain ⟨a1, a2, a3, a4⟩ := k3 a ha
  exact ⟨a1, by omega, by omega, a4⟩
theorem ProgI.wide {w : World} {lo hi lo' hi' : Nat} {Pa : Value} {p : List (List ActV)} (h : ProgI w lo hi Pa p) (h1 : lo' ≤ lo) (h2 : hi ≤ hi') : ProgI w lo' hi' Pa p := by
  obtain ⟨A, c, k1, k2, k3⟩ := h
  refine ⟨A, c, k1, k2, fun a ha => ?_⟩
  obtain ⟨a1, a2, a3, a4⟩ := k3 a ha
  exact ⟨a1, by omega, by omega, fun i f hf => by obtain ⟨F, q1, q2⟩ := a4 i f hf; exact ⟨F, q1, q2.wide h1 h2⟩⟩
theorem ProgI.q {w : World} {lo hi B : Nat} {Pa : Value} {p : List (List ActV)} (h : ProgI w lo hi Pa p) (hh : hi ≤ w.heap.size) (hB : hi ≤ B) : ProgQ w B Pa p := by
  obtain ⟨A, c, k1, k2, k3⟩ := h
  refine ⟨A, c, k1, k2, fun a ha => ?_⟩
  obtain ⟨a1, a2, a3, a4⟩ := k3 a ha
  refine ⟨a1, by omega, fun i f hf => ?_⟩
  obtain ⟨F, q1, A2, c2, g1, g2, g3⟩ := a4 i f hf
  refine ⟨F, q1, A2, c2, g1, g2, fun b hb => ?_⟩
  obtain ⟨e1, e2, e3, e4⟩ := g3 b hb
  exact ⟨e1, by omega, by omega, e4⟩
theorem ActI.of_own {w : World} {B : Nat} {A : Option Addr} {c : Nat} {f : List ActV} (h : OwnS w B 2 A f.length c (FAc f)) : ActI w B w.heap.size (.slice A f.length c) f := by
  refine ⟨A, c, rfl, fun e => by have := (h.none_ e).1; exact List.eq_nil_of_length_eq_zero this, fun a ha => ?_⟩
  obtain ⟨h1, h2, h3, h4, h5⟩ := h.at_ a ha
  refine ⟨h1, h2, h3, fun j x hx => ?_⟩
  obtain ⟨f0, f1⟩ := FAc_at f j x hx
  have e0 := h5 _ _ f0
  have e1 := h5 _ _ f1
  exact ⟨e0, by rw [Nat.add_assoc]; exact e1⟩
def bkF : Value → List Nat
  | .slice A _ _ => bkV A
  | _ => []
theorem FAc_snoc (f : List ActV) (x : ActV) : FAc (f ++ [x]) = FAc f ++ [.int .u8 (x.1 : Int), .int .i64 x.2] := by simp [FAc]
/-- The list of functions as far as it is made. -/
def PrgN (w : World) (B : Nat) (A : Option Addr) (c : Nat) (Fs : List Value) (p : List (List ActV)) : Prop :=
  OwnS w B 1 A p.length c Fs ∧ ∀ (i : Nat) (f : List ActV), p[i]? = some f → ∃ F, Fs[i]? = some F ∧ ActI w B w.heap.size F f ∧ ∀ y ∈ bkF F, y ∉ bkV A
theorem ActI.blk {w : World} {lo hi : Nat} {F : Value} {f : List ActV} (h : ActI w lo hi F f) : ∀ y ∈ bkF F, lo ≤ y ∧ y < hi := by
  obtain ⟨A, c, rfl, h2, h3⟩ := h
  intro y hy
  cases A with
  | none => simp [bkF, bkV] at hy
  | some a =>
    obtain ⟨_, k2, k3, _⟩ := h3 a rfl
    simp [bkF, bkV] at hy
    omega
theorem ActI.offF {w w' : World} {lo hi : Nat} {F : Value} {f : List ActV} {S : List Nat} (h : ActI w lo hi F f) (hh : hi ≤ w.heap.size) (ho : Off S w w') (hS : ∀ y ∈ bkF F, y ∉ S) : ActI w' lo hi F f := by
  obtain ⟨A, c, rfl, h2, h3⟩ := h
  refine ⟨A, c, rfl, h2, fun a ha => ?_⟩
  obtain ⟨k1, k2, k3, k4⟩ := h3 a ha
  refine ⟨k1, k2, k3, fun j x hx => ?_⟩
  have hn : a.block ∉ S := hS _ (by rw [ha]; simp [bkF, bkV])
  rw [ho.cell (p := ⟨a.block, a.off + j * 2, none⟩) (by show a.block < _; omega) hn, ho.cell (p := ⟨a.block, a.off + j * 2 + 1, none⟩) (by show a.block < _; omega) hn]
  exact k4 j x hx
theorem PrgN.below {w w' : World} {B c : Nat} {A : Option Addr} {Fs : List Value} {p : List (List ActV)} (h : PrgN w B A c Fs p) (hb : Below w.heap.size w w') : PrgN w' B A c Fs p := by
  obtain ⟨h1, h3⟩ := h
  refine ⟨h1.below hb, fun i f hf => ?_⟩
  obtain ⟨F, g1, g2, g3⟩ := h3 i f hf
  exact ⟨F, g1, (g2.offF (Nat.le_refl _) (Off.of_below (S := []) hb) (by simp)).wide (Nat.le_refl _) hb.size, g3⟩
theorem PrgN.snoc {w w' : World} {B c c' : Nat} {A A' : Option Addr} {Fs : List Value} {p : List (List ActV)} {f : List ActV} {F : Value} (h : PrgN w B A c Fs p) (hf : ActI w B w.heap.size F f) (hn : ∀ y ∈ bkF F, y ∉ bkV A)
    (hFs : OwnS w' B 1 A' (p.length + 1) c' (Fs ++ [F])) (ho : Off (bkV A) w w') (hk : ∀ y ∈ bkV A', y ∈ bkV A ∨ w.heap.size ≤ y) : PrgN w' B A' c' (Fs ++ [F]) (p ++ [f]) := by
  obtain ⟨h1, h3⟩ := h
  have hl : Fs.length = p.length := by have := h1.len; omega
  have keep : ∀ G g, ActI w B w.heap.size G g → (∀ y ∈ bkF G, y ∉ bkV A) → ActI w' B w'.heap.size G g ∧ ∀ y ∈ bkF G, y ∉ bkV A' := fun G g hG hGn =>
    ⟨(hG.offF (Nat.le_refl _) ho hGn).wide (Nat.le_refl _) ho.size, fun y hy hy2 => by rcases hk y hy2 with e | e; exact hGn y hy e; have := hG.blk y hy; omega⟩
  refine ⟨by rw [List.length_append]; exact hFs, fun i g hg => ?_⟩
  rcases Nat.lt_or_ge i p.length with hi | hi
  · rw [List.getElem?_append_left hi] at hg
    obtain ⟨G, g1, g2, g3⟩ := h3 i g hg
    obtain ⟨q1, q2⟩ := keep G g g2 g3
    exact ⟨G, by rw [List.getElem?_append_left (by omega)]; exact g1, q1, q2⟩
  · rw [List.getElem?_append_right hi] at hg
    obtain ⟨e1, e2⟩ : i = p.length ∧ f = g := by
      cases hq : i - p.length with
      | zero => rw [hq] at hg; simp at hg; exact ⟨by omega, hg⟩
      | succ j => rw [hq] at hg; simp at hg
    subst e1 e2
    obtain ⟨q1, q2⟩ := keep F f hf hn
    exact ⟨F, by rw [List.getElem?_append_right (by omega), hl]; simp, q1, q2⟩
theorem PrgN.prog {w : World} {B c : Nat} {A : Option Addr} {Fs : List Value} {p : List (List ActV)} (h : PrgN w B A c Fs p) : ProgI w B w.heap.size (.slice A p.length c) p := by
  obtain ⟨h1, h3⟩ := h
  refine ⟨A, c, rfl, fun e => List.eq_nil_of_length_eq_zero (h1.none_ e).1, fun a ha => ?_⟩
  obtain ⟨k1, k2, k3, k4, k5⟩ := h1.at_ a ha
  refine ⟨k1, k2, k3, fun i f hf => ?_⟩
  obtain ⟨F, g1, g2, _⟩ := h3 i f hf
  exact ⟨F, k5 _ _ g1, g2⟩
theorem PrgN.nil (w : World) (B : Nat) : PrgN w B none 0 [] [] := ⟨OwnS.nil _ _ _, fun i f hf => by simp at hf⟩
/-- .. that came in: where there is nothing in a list, nothing is known of its place. -/
def ActW (w : World) (B : Nat) (F : Value) (f : List ActV) : Prop :=
  ∃ (A : Option Addr) (c : Nat), F = .slice A f.length c ∧ (A = none → f = []) ∧ ∀ a, A = some a → 0 < f.length → a = ⟨a.block, a.off, none⟩ ∧ a.block < B ∧ ∀ (j : Nat) (x : ActV), f[j]? = some x → w.cell? ⟨a.block, a.off + j * 2, none⟩ = some (.int .u8 (x.1 : Int)) ∧ w.cell? ⟨a.block, a.off + j * 2 + 1, none⟩ = some (.int .i64 x.2)
def ProgW (w : World) (B : Nat) (Pa : Value) (p : List (List ActV)) : Prop :=
  ∃ (A : Option Addr) (c : Nat), Pa = .slice A p.length c ∧ (A = none → p = []) ∧ ∀ a, A = some a → 0 < p.length → a = ⟨a.block, a.off, none⟩ ∧ a.block < B ∧ ∀ (i : Nat) (f : List ActV), p[i]? = some f → ∃ F, w.cell? ⟨a.block, a.off + i, none⟩ = some F ∧ ActW w B F f
theorem ActW.below {w w' : World} {B : Nat} {F : Value} {f : List ActV} (h : ActW w B F f) (hb : Below B w w') : ActW w' B F f := by
  obtain ⟨A, c, h1, h2, h3⟩ := h
  refine ⟨A, c, h1, h2, fun a ha h0 => ?_⟩
  obtain ⟨k1, k2, k4⟩ := h3 a ha h0
  refine ⟨k1, k2, fun j x hx => ?_⟩
  rw [hb.cell (p := ⟨a.block, a.off + j * 2, none⟩) k2, hb.cell (p := ⟨a.block, a.off + j * 2 + 1, none⟩) k2]
  exact k4 j x hx
theorem ProgW.below {w w' : World} {B : Nat} {Pa : Value} {p : List (List ActV)} (h : ProgW w B Pa p) (hb : Below B w w') : ProgW w' B Pa p := by
  obtain ⟨A, c, h1, h2, h3⟩ := h
  refine ⟨A, c, h1, h2, fun a ha h0 => ?_⟩
  obtain ⟨k1, k2, k3⟩ := h3 a ha h0
  refine ⟨k1, k2, fun i f hf => ?_⟩
  obtain ⟨F, q1, q2⟩ := k3 i f hf
  exact ⟨F, (hb.cell (p := ⟨a.block, a.off + i, none⟩) k2).trans q1, q2.below hb⟩
/-- Lists that a machine may hold. -/
def ProgS (p : List (List ActV)) : Prop := p.length * 24 ≤ 140737488355328 ∧ ∀ (i : Nat) (f : List ActV), p[i]? = some f → f.length * 16 ≤ 140737488355328
theorem prog10_any (w : World) (B : Nat) (Pa : Value) (p : List (List ActV)) (h : ProgW w B Pa p) (hB : B ≤ w.heap.size) (hr : ProgS p) :
    Calls Tryd.prog 18 #[Pa] w fun e w' => ∃ A c, e = .returned (.slice A p.length c) ∧ ProgI w' w.heap.size w'.heap.size (.slice A p.length c) p ∧ Below w.heap.size w w' := by
  obtain ⟨iA, hiA, hA0, hA1, hA2⟩ := info_partsAct
  obtain ⟨iP, hiP, hP0, hP1, hP2⟩ := info_partsActs
  obtain ⟨PA, pc, rfl, h2, h3⟩ := h
  obtain ⟨hr1, hr2⟩ := hr
  have H3 := Lib.hid h3
  have H2 := Lib.hid h2
  have HR := Lib.hid hr2
  clear h2 h3 hr2
  go_enter Tryd.func18, Tryd.ntmps18
  go_wp2_with fail
  go_loopw [3, 11] (fun lv iv wr => ∃ i : Nat, i ≤ p.length ∧ iv = .int .i64 (i : Int) ∧ ∃ A c Fs, lv = .slice A i c ∧ PrgN wr w.heap.size A c Fs (p.take i) ∧ Below w.heap.size w wr) (fun _ iv _ => p.length - (intOf iv).toNat)
  case atStart => exact ⟨0, Nat.zero_le _, rfl, none, 0, [], rfl, PrgN.nil _ _, Below.refl _ _⟩
  case round =>
    obtain ⟨i, hi, rfl, A, c, Fs, rfl, hN, hb⟩ := hrel
    have HN := Lib.hid hN
    have HB := Lib.hid hb
    rcases Nat.lt_or_ge i p.length with h1 | h1
    · have hii : (i : Int) < (p.length : Int) := by omega
      have hi1 : IntKind.i64.wrap ((i : Int) + 1) = ((i + 1 : Nat) : Int) := by rw [IntWalk.i64_in _ (by omega)]; omega
      cases PA with
      | none => rw [H2.out rfl] at h1; simp at h1
      | some a =>
        obtain ⟨ha, hab, hcl⟩ := H3.out a rfl (by omega)
        obtain ⟨f, hf⟩ : ∃ f, p[i]? = some f := ⟨p[i], List.getElem?_eq_getElem h1⟩
        obtain ⟨F, hF1, hF2⟩ := hcl i f hf
        obtain ⟨fb, fo, rfl⟩ : ∃ fb fo, a = ⟨fb, fo, none⟩ := ⟨_, _, ha⟩
        simp only at hF1 hab
        have hF1' := (hb.cell (p := ⟨fb, fo + i, none⟩) (by show fb < _; omega)).trans hF1
        have HF2 := Lib.hid (hF2.below (hb.mono hB))
        obtain ⟨FA, fc, rfl, hfn, -⟩ := hF2
        have hfl := HR.out i f hf
        have htk : p.take (i + 1) = p.take i ++ [f] := by
          rw [List.take_succ_eq_append_getElem h1]
          rw [List.getElem?_eq_getElem h1] at hf
          injection hf with hf
          rw [hf]
        have HTK := Lib.hid htk
        have HFN := Lib.hid hfn
        have hpl : (p.take i).length = i := by rw [List.length_take]; omega
        have HPL := Lib.hid hpl
        clear hcl ha htk hf hF1 hN hb hfn hpl
        go_upto_region 5 with (fail)
        generalize wr = wx at *
        go_wp2_with fail
        go_loopw [6, 17] (fun lv jv wr => ∃ k : Nat, k ≤ f.length ∧ jv = .int .i64 (k : Int) ∧ ∃ A c, lv = .slice A k c ∧ OwnS wr wx.heap.size 2 A k c (FAc (f.take k)) ∧ Below wx.heap.size wx wr) (fun _ jv _ => f.length - (intOf jv).toNat)
        case atStart => exact ⟨0, Nat.zero_le _, rfl, none, 0, rfl, OwnS.nil _ _ _, Below.refl _ _⟩
        case round =>
          obtain ⟨k, hk, rfl, A2, c2, rfl, ho2, hb2⟩ := hrel
          have HO2 := Lib.hid ho2
          have HB2 := Lib.hid hb2
          rcases Nat.lt_or_ge k f.length with h2 | h2
          · have hkk : (k : Int) < (f.length : Int) := by omega
            have hk1 : IntKind.i64.wrap ((k : Int) + 1) = ((k + 1 : Nat) : Int) := by rw [IntWalk.i64_in _ (by omega)]; omega
            obtain ⟨⟨ak, an⟩, hx⟩ : ∃ x, f[k]? = some x := ⟨f[k], List.getElem?_eq_getElem h2⟩
            obtain ⟨A3, c3, he, -, h3⟩ := HF2.out
            injection he with he1 he2 he3
            obtain ⟨fa, rfl⟩ : ∃ fa, FA = some fa := by
              cases FA with
              | none => rw [HFN.out rfl] at h2; simp at h2
              | some fa => exact ⟨fa, rfl⟩
            obtain ⟨ha2, hfb, h4⟩ := h3 fa he1.symm (by omega)
            obtain ⟨gb, go_, rfl⟩ : ∃ gb go_, fa = ⟨gb, go_, none⟩ := ⟨_, _, ha2⟩
            obtain ⟨x0, x1⟩ := h4 k (ak, an) hx
            simp only at x0 x1 hfb
            have hxB : w.heap.size ≤ wx.heap.size := HB.out.size
            have y0 := (hb2.cell (p := ⟨gb, go_ + k * 2, none⟩) (by show gb < _; omega)).trans x0
            have y1 := (hb2.cell (p := ⟨gb, go_ + k * 2 + 1, none⟩) (by show gb < _; omega)).trans x1
            have htk : f.take (k + 1) = f.take k ++ [(ak, an)] := by
              rw [List.take_succ_eq_append_getElem h2]
              rw [List.getElem?_eq_getElem h2] at hx
              injection hx with hx
              rw [hx]
            have HTK2 := Lib.hid htk
            have b1 := (Below.refl wr.heap.size wr).alloc (Nat.le_refl _) (.cells #[.int .u8 (ak : Int), .int .i64 an] 95)
            have b2 := b1.alloc (by simp) (.cells #[.int .u8 (ak : Int), .int .i64 an] 24)
            have e0 := (BlkL.new wr [.int .u8 (ak : Int), .int .i64 an] 95).cell 0 _ rfl
            have e1 := (BlkL.new wr [.int .u8 (ak : Int), .int .i64 an] 95).cell 1 _ rfl
            have hbb : wx.heap.size ≤ ((wr.alloc (.cells #[.int .u8 (ak : Int), .int .i64 an] 95)).alloc (.cells #[.int .u8 (ak : Int), .int .i64 an] 24)).heap.size := Nat.le_trans hb2.size b2.size
            have hsrc := srcOne (wr.alloc (.cells #[.int .u8 (ak : Int), .int .i64 an] 95)) (.int .u8 (ak : Int)) (.int .i64 an) rfl rfl 24
            rw [World.size_alloc] at hsrc
            have HSRC := Lib.hid hsrc
            have HO3 := Lib.hid (ho2.below b2)
            have HB3 := Lib.hid (hb2.trans (b2.mono hb2.size))
            clear h3 h4 he1 he2 he3 ha2 htk hx x0 x1 b1 b2 ho2 hb2 hsrc
            go_wp2_with (refine wpList_append_s Tryd.underlying33 hiA hA0 hA1 hA2 rfl rfl (.tmp 21) (.tmp 27) rfl rfl HO3.out _ 1 1 _ rfl HSRC.out (fun e => by cases e) (by omega) (by omega) hbb ?_)
            intro A4 c4 w8 ho8 hf8 hbk8
            have HO8 := Lib.hid ho8
            have HB8 : Hid (Below wx.heap.size wx w8) := Lib.hid (HB3.out.trans (hf8.below hbb (fun y hy => (HO2.out.lt y hy).1)))
            clear ho8 hf8 hbk8
            go_wp2
            go_roundw
            case rel => exact ⟨k + 1, by omega, rfl, A4, c4, rfl, by rw [HTK2.out, FAc_snoc]; exact HO8.out, HB8.out⟩
            case measure => simp [intOf]; omega
          · obtain rfl : k = f.length := by omega
            have hkk : ¬ (f.length : Int) < (f.length : Int) := by omega
            have b1 := (Below.refl wr.heap.size wr).alloc (Nat.le_refl _) (.cells #[.slice A2 f.length c2] 33)
            have HSRC := Lib.hid (srcOne1 wr (.slice A2 f.length c2) rfl 33)
            have hN1 := (HN.out.below hb2).below b1
            have hact : ActI wr wx.heap.size wr.heap.size (.slice A2 f.length c2) f := by
              have := ho2
              rw [List.take_length] at this
              exact ActI.of_own this
            have hact1 : ActI (wr.alloc (.cells #[.slice A2 f.length c2] 33)) w.heap.size (wr.alloc (.cells #[.slice A2 f.length c2] 33)).heap.size (.slice A2 f.length c2) f := (hact.offF (Nat.le_refl _) (Off.of_below (S := []) b1) (by simp)).wide HB.out.size b1.size
            have hnA : ∀ y ∈ bkF (.slice A2 f.length c2), y ∉ bkV A := by
              intro y hy hy2
              have q1 := HN.out.1
              have h1 := (q1.lt y hy2).2
              have h2 := (hact.blk y hy).1
              omega
            have hFs := hN1.1
            rw [HPL.out] at hFs
            have HF := Lib.hid hFs
            have HN1 := Lib.hid hN1
            have HAC := Lib.hid hact1
            have HNA := Lib.hid hnA
            have hbw := HB.out.trans ((hb2.trans (b1.mono hb2.size)).mono HB.out.size)
            have HBW := Lib.hid hbw
            have hbb := hbw.size
            clear ho2 hb2 b1 hN1 hact hact1 hnA hFs hbw
            go_wp2_with (refine wpList_append_s Tryd.underlying34 hiP hP0 hP1 hP2 rfl rfl (.tmp 30) (.tmp 32) rfl rfl HF.out _ 1 1 _ rfl HSRC.out (fun e => by cases e) (by omega) (by omega) hbb ?_)
            intro A4 c4 w8 ho8 hf8 hbk8
            have hnew : PrgN w8 w.heap.size A4 c4 (Fs ++ [.slice A2 f.length c2]) (p.take (i + 1)) := by
              rw [HTK.out]
              exact HN1.out.snoc HAC.out HNA.out (by rw [HPL.out]; exact ho8) hf8 (fun y hy => (hbk8 y hy).elim Or.inl (fun q => Or.inr (by rw [q.1]; simp)))
            have HNW := Lib.hid hnew
            have HB8 : Hid (Below w.heap.size w w8) := Lib.hid (HBW.out.trans (hf8.below hbb (fun y hy => (HN.out.1.lt y hy).1)))
            clear ho8 hf8 hbk8 hnew
            go_wp2
            go_roundw
            case rel => exact ⟨i + 1, by omega, rfl, A4, c4, _, rfl, HNW.out, HB8.out⟩
            case measure => simp [intOf]; omega
    · obtain rfl : i = p.length := by omega
      have hii : ¬ (p.length : Int) < (p.length : Int) := by omega
      have hq := hN
      rw [List.take_length] at hq
      have HQ := Lib.hid hq.prog
      clear hq hN hb
      go_wp2
      go_ret
      exact ⟨A, c, rfl, HQ.out, HB.out⟩
end Go.Proofs.YtifldnkcheobhaaDoor
