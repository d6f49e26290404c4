/- begin: the acts of a run. -/
import Derived.Test.YtifldnkcheobhaaDoorCaG
namespace Go.Proofs.YtifldnkcheobhaaDoor
open Go.RowKit
set_option maxRecDepth 100000
set_option linter.unusedVariables false
set_option maxHeartbeats 4000000

/-- What the acts that are left give is what all give. -/
def LeftI (p : List (List ActV)) (d : Nat) (f : List ActV) (b0 : Option PanV) (s0 : CaS) (j : Nat) (b : Option PanV) (bx : List (Nat × Nat)) (s : CaS) : Prop :=
  j ≤ f.length ∧ actsV (runV p d) f b0 [] s0 = actsV (runV p d) (f.drop j) b (bx.map Prod.snd) s ∧ ∀ q ∈ bx, q.2 < p.length ∧ p.length ≤ q.2 + d
theorem BegE.of {w0 W : World} {B bm rb : Nat} {Pa : Value} {A : Option Addr} {bb : Option Nat} {by1 v1 : Value} {R : RunR} {w' : World} (a : ActR) (l : Option PanV × CaS) (hR : R = ⟨l.1, a.by_, l.2⟩) (h : BegE w0 W B bm rb Pa A bb by1 v1 ⟨l.1, a.by_, l.2⟩ w') : BegE w0 W B bm rb Pa A bb by1 v1 R w' := by
  rw [hR]; exact h
theorem begin_any {w0 : World} {p : List (List ActV)} {d : Nat} {B bm rb : Nat} {Pa F : Value} (HT : TellC w0) (HF : FailC w0) (HRun : RunC w0 p d) (f : List ActV) (i : Nat) (W : World) (A : Option Addr) (c : Nat) (s : CaS) (bb : Option Nat) (by1 v : Value) (b : Option PanV)
    (hf : ∀ x ∈ f, ActOk i p.length x ∧ -9223372036854775808 ≤ x.2 ∧ x.2 ≤ 9223372036854775807) (hfl : f.length ≤ 64) (hd : p.length ≤ i + 1 + d) (hbb : ∀ y ∈ bb.toList, y ≠ rb ∧ y < W.heap.size) (hcb : ∀ y ∈ cbk v, y ≠ rb ∧ y ∉ bb.toList)
    (h6 : 6 ≤ B) (hB : B ≤ bm) (hg : Glb w0 W) (hm : CaW W B bm Pa A c s) (hp : ProgP W B Pa p) (hF : ActP W B F f) (ho : ByW w0 W B bm A (some rb) (ptrO bb) .nilIface none) (hb : ByW w0 W B bm A bb by1 v b) :
    Calls Tryd.prog 39 #[.pointer (some ⟨bm, 0, none⟩), F, .pointer (some ⟨rb, 0, none⟩)] W fun e w' => e = .returned (.tuple #[]) ∧
      BegE w0 W B bm rb Pa A bb by1 v (let a := actsV (runV p d) f b [] s; let l := leaveV (runV p d) a.rem a.out a.st; ⟨l.1, a.by_, l.2⟩) w' := by
  have hmf : ∀ (fn : Fn) (first cap : Array Value) (w : World), (Instr.makeFunc fn first cap).run Tryd.prog w = .ok (.func fn first cap) w := fun _ _ _ _ => rfl
  have hbel := ((Below.refl W.heap.size W).alloc (Nat.le_refl _) (.cells #[.pointer (some ⟨bm, 0, none⟩)] 75)).alloc (by simp) (.cells #[.pointer (some ⟨rb, 0, none⟩)] 103)
  have hpmb : BlkL ((W.alloc (.cells #[.pointer (some ⟨bm, 0, none⟩)] 75)).alloc (.cells #[.pointer (some ⟨rb, 0, none⟩)] 103)) W.heap.size [.pointer (some ⟨bm, 0, none⟩)] := (BlkL.new W [.pointer (some ⟨bm, 0, none⟩)] _).alloc _
  have hprb : BlkL ((W.alloc (.cells #[.pointer (some ⟨bm, 0, none⟩)] 75)).alloc (.cells #[.pointer (some ⟨rb, 0, none⟩)] 103)) (W.heap.size + 1) [.pointer (some ⟨rb, 0, none⟩)] := by
    have := BlkL.new (W.alloc (.cells #[.pointer (some ⟨bm, 0, none⟩)] 75)) [.pointer (some ⟨rb, 0, none⟩)] 103
    rw [show (W.alloc (.cells #[.pointer (some ⟨bm, 0, none⟩)] 75)).heap.size = W.heap.size + 1 by simp] at this
    exact this
  have hlt := hm.blk.lt
  have hlr := ho.1.lt
  have hbelB : Below B W _ := hbel.mono hm.hB
  have hI0 : LpI w0 W B bm rb Pa F f p A bb by1 v (W.heap.size + 1) W.heap.size A c s v b [] ((W.alloc (.cells #[.pointer (some ⟨bm, 0, none⟩)] 75)).alloc (.cells #[.pointer (some ⟨rb, 0, none⟩)] 103)) := by
    refine ⟨hg.below h6 hbelB, hm.below hbel, hp.below hbelB, hF.below hbelB, ho.below hbel, hb.below hbel, Or.inl rfl, hbb, hcb, ⟨hprb, hpmb, by simp, ?_⟩, ?_, (Off.of_below hbel).mono (S := []) (by simp), fun y hy => Or.inl hy, h6, hB, ⟨hlt, hlr, hm.hB⟩⟩
    · rintro y (rfl | rfl | ⟨q, hq, rfl⟩)
      · exact ⟨by omega, by omega, fun hh => by have := (hm.own.lt _ hh).2; omega⟩
      · exact ⟨by omega, by omega, fun hh => by have := (hm.own.lt _ hh).2; omega⟩
      · simp at hq
    · rintro y (rfl | rfl | ⟨q, hq, rfl⟩)
      · omega
      · omega
      · simp at hq
  have HI0 := Lib.hid hI0
  obtain ⟨FA, fc, hFe, hFn, hFa⟩ := hF
  subst hFe
  clear hg hm hp ho hb hI0 hbel hbelB hprb hpmb
  go_enter_defers Tryd.func39, Tryd.ntmps39
  go_wp2
  revert HI0
  generalize (W.alloc (.cells #[.pointer (some ⟨bm, 0, none⟩)] 75)).alloc (.cells #[.pointer (some ⟨rb, 0, none⟩)] 103) = w00
  generalize hpr : W.heap.size + 1 = pr
  generalize hpm : W.heap.size = pm
  intro HI0
  refine wp_loop (fun a' w' => ∃ (j : Nat) (A' : Option Addr) (c' : Nat) (s' : CaS) (v1 : Value) (b1 : Option PanV) (bx : List (Nat × Nat)) (u7 u12 u13 u14 u15 u16 u17 u18 u19 u20 u21 u22 u23 u24 u25 u26 u27 u28 u29 u30 u31 u32 u33 u34 u35 u36 u37 u38 u39 u40 u41 u42 u43 u44 u45 u46 u47 u48 u49 u50 u51 u52 u53 u54 u55 u56 : Value), a' = { tmps := #[Value.pointer (some ⟨bm, 0, none⟩), Value.slice FA f.length fc, Value.pointer (some ⟨rb, 0, none⟩), Value.pointer (some ⟨pm, 0, none⟩), undef, Value.pointer (some ⟨pr, 0, none⟩), undef, u7, Value.func (Fn.func 45) #[] #[Value.pointer (some ⟨pr, 0, none⟩)], Value.slice FA f.length fc, Value.int IntKind.i64 (f.length : Int), Value.int IntKind.i64 (j : Int), u12, u13, u14, u15, u16, u17, u18, u19, u20, u21, u22, u23, u24, u25, u26, u27, u28, u29, u30, u31, u32, u33, u34, u35, u36, u37, u38, u39, u40, u41, u42, u43, u44, u45, u46, u47, u48, u49, u50, u51, u52, u53, u54, u55, u56], defers := dfs pr pm bx } ∧ LpI w0 W B bm rb Pa (.slice FA f.length fc) f p A bb by1 v pr pm A' c' s' v1 b1 bx w' ∧ LeftI p d f b s j b1 bx s')
    (fun a' _ => f.length - (intOf (a'.tmps.getD 11 undef)).toNat) ?_ ?_
  · refine ⟨0, A, c, s, v, b, [], _, _, _, _, _, _, _, _, _, _, _, _, _, _, _, _, _, _, _, _, _, _, _, _, _, _, _, _, _, _, _, _, _, _, _, _, _, _, _, _, _, _, _, _, _, _, rfl, HI0.out, ⟨by omega, rfl, by simp⟩⟩
  rintro _ wr ⟨j, A', c', s', v1, b1, bx, u7, u12, u13, u14, u15, u16, u17, u18, u19, u20, u21, u22, u23, u24, u25, u26, u27, u28, u29, u30, u31, u32, u33, u34, u35, u36, u37, u38, u39, u40, u41, u42, u43, u44, u45, u46, u47, u48, u49, u50, u51, u52, u53, u54, u55, u56, rfl, hI, hjl, hLft, hbx⟩
  have HI := Lib.hid hI
  have hpl := hI.box.m.lt
  have hrl := hI.box.r.lt
  have hml := hI.m.blk.lt
  have HL := Lib.hid hLft
  have HBX := Lib.hid hbx
  clear hI hLft hbx
  rcases Nat.lt_or_ge j f.length with hj | hj
  · obtain ⟨⟨k, n⟩, hx⟩ : ∃ x, f[j]? = some x := ⟨f[j], List.getElem?_eq_getElem hj⟩
    have hdr : f.drop j = (k, n) :: f.drop (j + 1) := by
      rw [List.drop_eq_getElem_cons hj]
      rw [List.getElem?_eq_getElem hj] at hx
      injection hx with hx
      rw [hx]
    have hxm : (k, n) ∈ f := List.mem_of_getElem? hx
    obtain ⟨hok, hn1, hn2⟩ := hf _ hxm
    have hk256 := hok.1
    have hkk := hok.2
    simp only at hk256 hkk hn1 hn2
    cases hFA : FA with
    | none => rw [hFn hFA] at hj; simp at hj
    | some a =>
    subst hFA
    obtain ⟨fb, fo, rfl⟩ : ∃ fb fo, a = ⟨fb, fo, none⟩ := ⟨_, _, (hFa a rfl).1⟩
    have hfp := HI.out.f
    obtain ⟨A2, c2, he, -, h3⟩ := hfp
    injection he with he1 he2 he3
    obtain ⟨-, hfB, hfb, h4⟩ := h3 ⟨fb, fo, none⟩ he1.symm
    obtain ⟨x0, x1⟩ := h4 j (k, n) hx
    simp only at x0 x1 hfB hfb
    have cm := HI.out.box.m.cell 0 _ rfl
    have cr := HI.out.box.r.cell 0 _ rfl
    have fu := HI.out.m.blk.cell 1 _ rfl
    have fz := HI.out.m.blk.froz 1 (by simp)
    have hpp := HI.out.box.ap pm (Or.inr (Or.inl rfl))
    have hpq := HI.out.box.ap pr (Or.inl rfl)
    have npm : ¬ pm = bm := hpp.1
    have npr : ¬ pr = bm := hpq.1
    have nfb : ¬ fb = bm := by have := HI.out.hB; omega
    have hji : (j : Int) < (f.length : Int) := by omega
    have hj1 : IntKind.i64.wrap ((j : Int) + 1) = ((j + 1 : Nat) : Int) := by rw [IntWalk.i64_in _ (by omega)]; omega
    clear hFa hFn hf h3 h4 he1 he2 he3 hpp hpq hok
    rw [hdr] at HL
    obtain ⟨Fu, hFu⟩ : ∃ Fu, s'.fuel = Fu := ⟨_, rfl⟩
    have HFU := Lib.hid hFu
    rw [hFu] at fu
    rcases Nat.eq_zero_or_pos Fu with h0 | h0
    · subst h0
      have hI1 := HI.out.below ((Below.refl wr.heap.size wr).alloc (Nat.le_refl _) (.cells #[.int .u8 (k : Int), .int .i64 n] 24))
      have HI1 := Lib.hid hI1
      clear hI1
      go_wp2
      refine leaves_ret HRun HI1.out.h6 HI1.out.hB rfl bx _ A' c' s' .nilIface none HI1.out.g HI1.out.m HI1.out.p HI1.out.own HI1.out.box HBX.out (fun w' hL => ⟨rfl, ?_⟩)
      have e : actsV (runV p d) f b [] s = ⟨none, b1, bx.map Prod.snd, s'⟩ := by rw [HL.out]; simp [actsV, HFU.out]
      rw [e]
      exact HI1.out.leave (by simp [cbk]) hL
    · obtain ⟨F1, hF1⟩ : ∃ F1, Fu = F1 + 1 := ⟨Fu - 1, by omega⟩
      have hlm := HI.out.m.lim
      have HF1 := Lib.hid hF1
      have hwf : IntKind.i64.wrap ((Fu : Int) - 1) = (F1 : Int) := by rw [IntWalk.i64_in _ (by omega)]; omega
      have hf0 : ¬ (Fu : Int) = 0 := by omega
      have hf0b : ((Fu : Int) == 0) = false := by simp; omega
      have hsf : ¬ s'.fuel = 0 := by omega
      have HSF := Lib.hid hsf
      have hI2 := HI.out.step (HI.out.m.burn (k := F1) (by omega)) ((Off.refl (bm :: bkV A') _).setCell (p := ⟨bm, 1, none⟩) (by simp) _) (fun y hy => Or.inl hy)
      have hI3 := hI2.below ((Below.refl (wr.setCell ⟨bm, 1, none⟩ (.int .i64 (F1 : Int))).heap.size (wr.setCell ⟨bm, 1, none⟩ (.int .i64 (F1 : Int)))).alloc (Nat.le_refl _) (.cells #[.int .u8 (k : Int), .int .i64 n] 24))
      have hbox : BlkL ((wr.setCell ⟨bm, 1, none⟩ (.int .i64 (F1 : Int))).alloc (.cells #[.int .u8 (k : Int), .int .i64 n] 24)) wr.heap.size [.int .u8 (k : Int), .int .i64 n] := by
        have := BlkL.new (wr.setCell ⟨bm, 1, none⟩ (.int .i64 (F1 : Int))) [.int .u8 (k : Int), .int .i64 n] 24
        rw [show (wr.setCell ⟨bm, 1, none⟩ (.int .i64 (F1 : Int))).heap.size = wr.heap.size by simp] at this
        exact this
      have HI3 := Lib.hid hI3
      have HBOX := Lib.hid hbox
      have hml2 := hml
      have hlim2 : s'.burn.marks.length + 1 + s'.burn.fuel ≤ 8192 := by show s'.marks.length + 1 + (s'.fuel - 1) ≤ 8192; omega
      clear hI2 hI3 hbox hlm hF1 hFu hsf h0
      go_upto_region 7 with (fail)
      generalize hpa : wr.heap.size = pa
      have hpaw : W.heap.size ≤ pa := by have := HI.out.off.size; omega
      have hpan : pa ≠ bm ∧ pa ≠ rb ∧ pa ∉ bkV A' := by
        have h1 := HI.out.own.1.lt
        exact ⟨by omega, by omega, fun hh => by have := (HI.out.m.own.lt _ hh).2; omega⟩
      rw [hpa] at HBOX
      revert HI3 HBOX
      generalize (wr.setCell ⟨bm, 1, none⟩ (.int .i64 (F1 : Int))).alloc (.cells #[.int .u8 (k : Int), .int .i64 n] 24) = w2
      intro HI3 HBOX
      have y0 := HBOX.out.cell 0 _ rfl
      have y1 := HBOX.out.cell 1 _ rfl
      have cm2 := HI3.out.box.m.cell 0 _ rfl
      have cr2 := HI3.out.box.r.cell 0 _ rfl
      have hpl2 := HI3.out.box.m.lt
      have hpal := HBOX.out.lt
      clear x0 x1 cm cr fu fz hml hpl hrl hfb hfB
      rcases Nat.lt_or_ge k 6 with hk6 | hk6
      · rcases (show k = 1 ∨ k = 2 ∨ k = 3 ∨ k = 4 ∨ k = 5 by omega) with rfl | rfl | rfl | rfl | rfl
        · have HM : Hid (Calls Tryd.prog 47 #[.pointer (some ⟨bm, 0, none⟩), .int .u8 1, .agg #[.int .u8 0, .int .i64 n]] w2 fun r w' => r = .returned (.tuple #[]) ∧ MarkE w2 B bm Pa A' s'.burn 1 (0, n) w') := Lib.hid (mark_any w2 B bm c' Pa A' s'.burn 1 (0, n) HI3.out.m hlim2)
          go_wp2_with fail
          with_reducible refine HM.out.mono ?_
          rintro e w3 ⟨rfl, hE⟩
          obtain ⟨A3, c3, hm3, hf3, hA3⟩ := hE
          have HI4 := Lib.hid (HI3.out.step hm3 hf3 hA3)
          clear hm3 hf3 hA3
          go_wp2
          refine ⟨⟨j + 1, A3, c3, _, v1, b1, bx, _, _, _, _, _, _, _, _, _, _, _, _, _, _, _, _, _, _, _, _, _, _, _, _, _, _, _, _, _, _, _, _, _, _, _, _, _, _, _, _, _, _, _, _, _, _, rfl, HI4.out, by omega, by rw [HL.out]; simp [actsV, HSF.out], HBX.out⟩, ?_⟩
          simp [intOf]; omega
        · obtain ⟨i2, rfl⟩ : ∃ i2 : Nat, n = (i2 : Int) := ⟨n.toNat, by omega⟩
          have hi2 : i < i2 ∧ i2 < p.length := by omega
          have hi3 : p.length ≤ i2 + d := by omega
          have HC := Lib.hid (call_any HRun HI3.out.h6 HI3.out.hB w2 A' c' s'.burn i2 HI3.out.g HI3.out.m HI3.out.p hi2.2 hi3)
          have hww := HI3.out.off.size
          go_wp2_with fail
          with_reducible refine HC.out.mono ?_
          rintro e w3 ⟨o, hE, hor⟩
          obtain ⟨A3, c3, v3, m3, r3, k3, -, -, f3, g3⟩ := hE
          have HI4 := Lib.hid (HI3.out.step m3 f3 g3)
          rcases hor with ⟨rfl, rfl⟩ | ⟨T, x, rfl, rfl⟩
          · have ho : (runV p d i2 none s'.burn).out = none := by revert r3; generalize (runV p d i2 none s'.burn).out = z; intro r3; cases r3; rfl
            have HO := Lib.hid ho
            clear m3 r3 k3 f3 g3 ho
            go_wp2
            refine ⟨⟨j + 1, A3, c3, _, v1, b1, bx, _, _, _, _, _, _, _, _, _, _, _, _, _, _, _, _, _, _, _, _, _, _, _, _, _, _, _, _, _, _, _, _, _, _, _, _, _, _, _, _, _, _, _, _, _, _, rfl, HI4.out, by omega, by rw [HL.out]; simp [actsV, HSF.out, HO.out], HBX.out⟩, ?_⟩
            simp [intOf]; omega
          · obtain ⟨pe, hpe⟩ : ∃ pe, (runV p d i2 none s'.burn).out = some pe := by
              revert r3; generalize (runV p d i2 none s'.burn).out = z; intro r3
              cases r3 <;> exact ⟨_, rfl⟩
            rw [hpe] at r3
            have hlw := HI3.out.m.blk.lt
            have hlo := HI3.out.own.1.lt
            have hlB := HI3.out.m.hB
            refine leaves_pan HRun HI4.out.h6 HI4.out.hB rfl bx w3 A3 c3 _ T x pe [] w2.heap.size HI4.out.g HI4.out.m HI4.out.p HI4.out.own HI4.out.box HBX.out r3 (fun y hy => k3 y hy) ⟨hlB, hlo, hlw⟩ (by simp) (fun w' hL => ⟨rfl, ?_⟩)
            have e : actsV (runV p d) f b [] s = ⟨some pe, b1, bx.map Prod.snd, (runV p d i2 none s'.burn).st⟩ := by rw [HL.out]; simp [actsV, HSF.out, hpe]
            rw [e]
            exact HI4.out.leave (fun y hy => Nat.le_trans hww (k3 y hy).1) hL
        · obtain ⟨i2, rfl⟩ : ∃ i2 : Nat, n = (i2 : Int) := ⟨n.toNat, by omega⟩
          have HI4 := Lib.hid (HI3.out.push (q := (pa, i2)) HBOX.out hpaw hpan)
          have hi2 : i < i2 ∧ i2 < p.length := by omega
          have HB2 : Hid (∀ q ∈ (pa, i2) :: bx, q.2 < p.length ∧ p.length ≤ q.2 + d) := Lib.hid (fun q hq => (List.mem_cons.1 hq).elim (fun e => by subst e; exact And.intro hi2.2 (show p.length ≤ i2 + d by omega)) (HBX.out q))
          go_wp2
          refine ⟨⟨j + 1, A', c', s'.burn, v1, b1, (pa, i2) :: bx, ⟨by omega, rfl⟩, HI4.out, by omega, by rw [HL.out]; simp [actsV, HSF.out], HB2.out⟩, ?_⟩
          simp [intOf]; omega
        · go_wp2
          refine leaves_ret HRun HI3.out.h6 HI3.out.hB rfl bx _ A' c' s'.burn .nilIface none HI3.out.g HI3.out.m HI3.out.p HI3.out.own HI3.out.box HBX.out (fun w' hL => ⟨rfl, ?_⟩)
          have e : actsV (runV p d) f b [] s = ⟨none, b1, bx.map Prod.snd, s'.burn⟩ := by rw [HL.out]; simp [actsV, HSF.out]
          rw [e]
          exact HI3.out.leave (by simp [cbk]) hL
        · have HMK : Hid (∀ (W2 : World) (b2 : Option PanV) (v2 : Value), LpI w0 W B bm rb Pa (.slice (some ⟨fb, fo, none⟩) f.length fc) f p A bb by1 v pr pm A' c' s'.burn v2 b2 bx W2 → ∀ e : PanV, Calls Tryd.prog 47 #[.pointer (some ⟨bm, 0, none⟩), .int .u8 5, .agg #[.int .u8 (e.1 : Int), .int .i64 e.2]] W2 fun r w' => r = .returned (.tuple #[]) ∧ MarkE W2 B bm Pa A' s'.burn 5 e w') := Lib.hid (fun W2 b2 v2 h e => mark_any W2 B bm c' Pa A' s'.burn 5 e h.m hlim2)
          go_upto_region 17 with (fail)
          have hI5 := HI3.out.below (wr' := w2.drew) ((Below.refl _ w2).drew)
          have HI5 := Lib.hid hI5
          have m0 := hI5.box.m.cell 0 _ rfl
          have m1 := hI5.box.r.cell 0 _ rfl
          clear hI5
          cases bb with
          | none =>
            have HR : Hid (Calls Tryd.prog 50 #[.pointer (some ⟨rb, 0, none⟩)] w2.drew fun e w' => e = .returned .nilIface ∧ w2.drew = w') := Lib.hid (recovered_none w2.drew rb _ HI5.out.own.1)
            have HT2 := Lib.hid (HT w2.drew .nilIface none HI5.out.g .none)
            go_region_held3 (fun w' => w'.cell? ⟨pm, 0, none⟩ = some (.pointer (some ⟨bm, 0, none⟩)) ∧ w'.cell? ⟨pr, 0, none⟩ = some (.pointer (some ⟨rb, 0, none⟩))) (go_keep)
              (first
                | (((with_reducible refine HR.out.mono ?_); rintro e w3 ⟨rfl, rfl⟩))
                | (((with_reducible refine HT2.out.mono ?_); rintro e w4 ⟨rfl, hf4⟩; have hI6 := HI5.out.below (hf4.below (Nat.le_refl _) (by simp)); have n0 := hI6.box.m.cell 0 _ rfl; have n1 := hI6.box.r.cell 0 _ rfl; have HI6 := Lib.hid hI6; have HM5 := Lib.hid (HMK.out w4 _ _ hI6 (noneV none)); clear hI6 hf4))
                | (((with_reducible refine HM5.out.mono ?_); rintro e w5 ⟨rfl, hE⟩; obtain ⟨A5, c5, hm5, hf5, hA5⟩ := hE; have hI7 := HI6.out.step hm5 hf5 hA5; have o0 := hI7.box.m.cell 0 _ rfl; have o1 := hI7.box.r.cell 0 _ rfl; have HI7 := Lib.hid hI7; clear hI7 hm5 hf5 hA5)))
            obtain ⟨-, rfl⟩ := HI3.out.by_
            go_wp2
            refine ⟨⟨j + 1, A5, c5, _, v1, none, bx, _, _, _, _, _, _, _, _, _, _, _, _, _, _, _, _, _, _, _, _, _, _, _, _, _, _, _, _, _, _, _, _, _, _, _, _, _, _, _, _, _, _, _, _, _, _, rfl, HI7.out, by omega, by rw [HL.out]; simp [actsV, HSF.out], HBX.out⟩, ?_⟩
            simp [intOf]; omega
          | some z =>
            have HO5 := Lib.hid (HI3.out.over.below ((Below.refl _ (w2.setCell ⟨z, 1, none⟩ .nilIface)).drew))
            have HR : Hid (Calls Tryd.prog 50 #[.pointer (some ⟨rb, 0, none⟩)] w2.drew fun e w' => e = .returned v1 ∧ w' = (w2.setCell ⟨z, 1, none⟩ .nilIface).drew) := Lib.hid ((recovered_some w2.drew rb z .nilIface by1 v1 HI5.out.own.1 HI5.out.by_.1).mono (fun e w' hh => ⟨hh.1, hh.2.trans rfl⟩))
            have HT2 := Lib.hid (HT (w2.setCell ⟨z, 1, none⟩ .nilIface).drew v1 b1 HO5.out.g (HI3.out.by_.2.1.off (S := [z]) ((Off.refl [z] w2).setCell (p := ⟨z, 1, none⟩) (by simp) .nilIface).drew (fun y hy => (HI5.out.cb y hy).2)))
            have l0 := HO5.out.box.m.cell 0 _ rfl
            have l1 := HO5.out.box.r.cell 0 _ rfl
            go_region_held3 (fun w' => w'.cell? ⟨pm, 0, none⟩ = some (.pointer (some ⟨bm, 0, none⟩)) ∧ w'.cell? ⟨pr, 0, none⟩ = some (.pointer (some ⟨rb, 0, none⟩))) (go_keep)
              (first
                | (((with_reducible refine HR.out.mono ?_); rintro e w3 ⟨rfl, rfl⟩))
                | (((with_reducible refine HT2.out.mono ?_); rintro e w4 ⟨rfl, hf4⟩; have hI6 := HO5.out.below (hf4.below (Nat.le_refl _) (by simp)); have n0 := hI6.box.m.cell 0 _ rfl; have n1 := hI6.box.r.cell 0 _ rfl; have HI6 := Lib.hid hI6; have HM5 := Lib.hid (HMK.out w4 _ _ hI6 (noneV b1)); clear hI6 hf4))
                | (((with_reducible refine HM5.out.mono ?_); rintro e w5 ⟨rfl, hE⟩; obtain ⟨A5, c5, hm5, hf5, hA5⟩ := hE; have hI7 := HI6.out.step hm5 hf5 hA5; have o0 := hI7.box.m.cell 0 _ rfl; have o1 := hI7.box.r.cell 0 _ rfl; have HI7 := Lib.hid hI7; clear hI7 hm5 hf5 hA5)))
            go_wp2
            refine ⟨⟨j + 1, A5, c5, _, .nilIface, none, bx, _, _, _, _, _, _, _, _, _, _, _, _, _, _, _, _, _, _, _, _, _, _, _, _, _, _, _, _, _, _, _, _, _, _, _, _, _, _, _, _, _, _, _, _, _, _, rfl, HI7.out, by omega, by rw [HL.out]; simp [actsV, HSF.out], HBX.out⟩, ?_⟩
            simp [intOf]; omega
      · have hkr : 11 ≤ k ∧ k ≤ 24 := by omega
        have hq1 : ¬ (k : Int) = 1 := by omega
        have hq2 : ¬ (k : Int) = 2 := by omega
        have hq3 : ¬ (k : Int) = 3 := by omega
        have hq4 : ¬ (k : Int) = 4 := by omega
        have hq5 : ¬ (k : Int) = 5 := by omega
        have HX := Lib.hid (HF w2 k n HI3.out.g hkr.1 hkr.2 hn1 hn2)
        have hww := HI3.out.off.size
        go_wp2_with fail
        with_reducible refine HX.out.mono ?_
        intro e w3 hE
        obtain ⟨T, x, older, rfl, hol, hc, hf3, hcn⟩ := hE
        have hbl : Below w2.heap.size w2 w3 := hf3.below (Nat.le_refl _) (by simp)
        have HI4 := Lib.hid (HI3.out.below hbl)
        have hlw := HI3.out.m.blk.lt
        have hlo := HI3.out.own.1.lt
        have hlB := HI3.out.m.hB
        refine leaves_pan HRun HI4.out.h6 HI4.out.hB rfl bx w3 A' c' s'.burn T x (endV k n) older w2.heap.size HI4.out.g HI4.out.m HI4.out.p HI4.out.own HI4.out.box HBX.out hc (fun y hy => ⟨hcn y hy, fun hh => by have := (HI3.out.m.own.lt _ hh).2; have := hcn y hy; omega⟩) ⟨hlB, hlo, hlw⟩ hol (fun w' hL => ⟨rfl, ?_⟩)
        have e : actsV (runV p d) f b [] s = ⟨some (endV k n), b1, bx.map Prod.snd, s'.burn⟩ := by rw [HL.out]; simp [actsV, HSF.out, show ¬ k = 1 by omega, show ¬ k = 2 by omega, show ¬ k = 3 by omega, show ¬ k = 4 by omega, show ¬ k = 5 by omega]
        rw [e]
        exact HI4.out.leave (fun y hy => Nat.le_trans hww (hcn y hy)) hL
  · obtain rfl : j = f.length := by omega
    have hjn : ¬ ((f.length : Int) < (f.length : Int)) := by omega
    go_wp2
    refine leaves_ret HRun HI.out.h6 HI.out.hB rfl bx wr A' c' s' .nilIface none HI.out.g HI.out.m HI.out.p HI.out.own HI.out.box HBX.out (fun w' hL => ⟨rfl, ?_⟩)
    have e : actsV (runV p d) f b [] s = ⟨none, b1, bx.map Prod.snd, s'⟩ := by rw [HL.out]; simp [actsV]
    rw [e]
    exact HI.out.leave (by simp [cbk]) hL
end Go.Proofs.YtifldnkcheobhaaDoor
