/- The law ShardPlays: its walk. -/
import Derived.Test.YtpjgpiiibgogeaaDsAll
import Derived.Outline
import Derived.BigQuiet
namespace Go.Proofs.Ytpjgpiiibgogeaa
open Go.RowKit
set_option maxRecDepth 100000
set_option linter.unusedVariables false

def PlInv (w : World) (s b bw dp n : Nat) (iv : Value) (wr : World) : Prop :=
  ∃ i k v l nx dc, i ≤ n ∧ i ≤ 300 ∧ iv = .int .i64 ((i : Nat) : Int) ∧ k ≤ i + 1 ∧ PlS w wr s b bw dp [dp] k v l nx dc
theorem DocR.weak2 {w : World} {dp v n c : Nat} {Y Y' : List Nat} {A : Option Addr} {es : List KV} {dc : Nat → DcC} (h : DocR w dp Y' v A n c es dc) (hs : ∀ x ∈ Y, x ∈ dp :: Y') : DocR w dp Y v A n c es dc := by
  have hs2 : ∀ x ∈ dp :: Y, x ∈ dp :: Y' := by
    intro x hx
    rcases List.mem_cons.1 hx with e | e
    · rw [e]; simp
    · exact hs x e
  exact ⟨h.blk, h.ver.weak hs2, h.wf, fun j hj => ⟨(h.key j hj).1, (h.key j hj).2.1.weak hs2, (h.key j hj).2.2⟩⟩
set_option maxHeartbeats 25600000 in
theorem shardPlays_walk (A : Option Addr) (n d : Nat) (l0 : List PkV) (w : World) (h : ScrA w w.heap.size A n d l0) (hd : d ≤ 8796093021952) :
    Calls Try.prog 8 #[.slice A n d] w (ValEnd w (.bool true)) := by
  have hle := h.arg.le
  have HAG := Lib.hid h
  clear h
  go_enter Try.func8, Try.ntmps8
  go_wp2_with fail
  with_reducible refine (awake14_any _).mono ?_
  rintro e w1 ⟨rfl, hB⟩
  have HB1 := Lib.hid hB
  have HN := Lib.hid (newC w1)
  clear hB
  go_wp2_with fail
  with_reducible refine HN.out.mono ?_
  rintro e w2 ⟨s, b, bw, rfl, c2⟩
  have hsz1 := HB1.out.size
  have c2' : ShC w w2 s b bw [] 1 1 [] (fun _ => .none) := ⟨c2.sh, Nat.le_trans hsz1 c2.bs, Nat.le_trans hsz1 c2.bb, Nat.le_trans hsz1 c2.bbw, HB1.out.trans (c2.bel.mono hsz1)⟩
  have HDN := Lib.hid (dnew_any w2 [s, b, bw] (fun y hy => c2'.allX y hy))
  have C2 := Lib.hid c2'
  clear c2 c2' HN
  go_wp2_with fail
  with_reducible refine HDN.out.mono ?_
  rintro e w3 ⟨dp, rfl, hdp, hd3, hb3⟩
  have s0 : PlS w w3 s b bw dp [dp] 1 1 [] (fun _ => .none) (fun _ => zDc) := by
    refine ⟨C2.out.addX hb3 hdp hd3.lt, ⟨_, _, _, _, hd3.weak2 (by intro x hx; simp only [List.mem_cons, List.not_mem_nil, or_false] at hx ⊢; rcases hx with h | h | h | h <;> simp [h]), rfl⟩, fun j hj => rfl, by simp, Nat.le_trans C2.out.bel.size hdp, fun hm => ?_⟩
    have := C2.out.allX dp (by simpa using hm)
    omega
  have S0 := Lib.hid s0
  clear s0 hd3 hb3 HDN
  go_wp2
  go_loopw [23] (fun iv wr => PlInv w s b bw dp n iv wr) (fun iv _ => n - (intOf iv).toNat)
  case atStart => exact ⟨0, 1, 1, [], _, _, Nat.zero_le _, by omega, rfl, by omega, S0.out⟩
  case round =>
    obtain ⟨i, k, v, l, nx, dc, hi, hi3, rfl, hk, st⟩ := hrel
    clear S0 C2
    rcases Nat.lt_or_ge i n with hin | hin
    · obtain ⟨bb, off, eA, hbb, q0, q1, q2, q3, harg, hok⟩ := (HAG.out.below st.sh.bel).at_ hin
      subst eA
      have hbs := st.sh.bel.size
      have HPM := Lib.hid (pk_mem (l := l0) (i := i) (by rw [HAG.out.len]; exact hin))
      generalize l0.getD i noPk = p at q0 q1 q2 q3 harg hok HPM
      obtain ⟨who, op, pA, pn, pc, pz, px⟩ := p
      simp only at q0 q1 q2 q3 harg
      have j0 : (0 : Int) ≤ (i : Int) := by omega
      have j1 : (i : Int) < (n : Int) := by omega
      have hbb2 : bb < wr.heap.size := by omega
      have hple := harg.le
      have hpc := hok.kc
      have ho255 := hok.o1
      simp only at hpc ho255
      have ST := Lib.hid st
      clear hok
      rcases Nat.lt_or_ge i 300 with h3 | h3
      · have h3' : ¬ (300 : Int) ≤ (i : Int) := by omega
        have hwf := st.sh.wfv
        have hPn : wr.heap.size ∉ dp :: s :: b :: bw :: [dp] := fun hm => Nat.lt_irrefl _ (st.lt _ hm)
        have KP0 := Lib.hid (BlkL.new wr [.int .i64 who, .int .u8 (op : Int), .slice pA pn pc, .int .i64 px] 72)
        have hba : Below wr.heap.size wr (wr.alloc (.cells #[.int .i64 who, .int .u8 (op : Int), .slice pA pn pc, .int .i64 px] 72)) := (Below.refl _ _).alloc (Nat.le_refl _) _
        have ST4 := Lib.hid (st.below hba)
        have hPs : wr.heap.size ∉ [s, b, bw] := fun hm => hPn (by simp only [List.mem_cons, List.not_mem_nil, or_false] at hm ⊢; rcases hm with h | h | h <;> simp [h])
        have hPd : wr.heap.size ∉ [dp] := fun hm => hPn (by simp only [List.mem_cons, List.not_mem_nil, or_false] at hm ⊢; simp [hm])
        have HPS := Lib.hid (And.intro hPs hPd)
        have HK4 := Lib.hid ((harg.below (hba.mono hbs)))
        have hs4 : w.heap.size ≤ (wr.alloc (.cells #[.int .i64 who, .int .u8 (op : Int), .slice pA pn pc, .int .i64 px] 72)).heap.size := by simp; omega
        have hP4 : wr.heap.size < (wr.alloc (.cells #[.int .i64 who, .int .u8 (op : Int), .slice pA pn pc, .int .i64 px] 72)).heap.size := by simp
        have hvk := hwf.2.1
        have hv1 := hwf.2.2
        have hrelS := st.rel
        clear hwf hPn hba st hPs hPd harg
        rcases Nat.eq_zero_or_pos op with hf0 | hf0
        · have hopb : ((op : Int) != 0) = false := by subst hf0; rfl
          clear hf0
          obtain ⟨d, E, N, f, k', v', l', nx', hk', hS, hD⟩ := steps_any w s b bw dp [dp] k v l nx dc hrelS (by omega) hvk hv1 who
          have HS := Lib.hid hS
          have HD := Lib.hid hD
          clear hS hD hrelS
          go_wp2_with fail
          generalize wr.alloc (.cells #[.int .i64 who, .int .u8 (op : Int), .slice pA pn pc, .int .i64 px] 72) = w4 at *
          generalize wr.heap.size = P at *
          have HS4 := Lib.hid (HS.out w4 ST4.out.sh)
          with_reducible refine HS4.out.mono ?_
          rintro e w5 ⟨rfl, c5, of5⟩
          have kp5 := (KP0.out.off of5 HPS.out.1).alloc (.cells #[.bool d, .int .i64 E, .int .i64 N] 79)
          have kr5 := BlkL.new w5 [.bool d, .int .i64 E, .int .i64 N] 79
          have hba : Below w5.heap.size w5 (w5.alloc (.cells #[.bool d, .int .i64 E, .int .i64 N] 79)) := (Below.refl _ _).alloc (Nat.le_refl _) _
          obtain ⟨A4, n4, c4, es4, hd4, he4⟩ := ST4.out.dr
          have hd5 := (hd4.off of5 ST4.out.dn (of5.mono (by intro x hx; simp only [List.mem_cons, List.not_mem_nil, or_false] at hx ⊢; rcases hx with h | h | h <;> simp [h]))).below hba
          have hlt6 : ∀ y ∈ dp :: s :: b :: bw :: [dp], y < (w5.alloc (.cells #[.bool d, .int .i64 E, .int .i64 N] 79)).heap.size := fun y hy => Nat.lt_of_lt_of_le (ST4.out.lt y hy) (Nat.le_trans of5.size hba.size)
          have hdg := ST4.out.dge
          have hdn := ST4.out.dn
          have hdlt : dp < w5.heap.size := Nat.lt_of_lt_of_le (ST4.out.lt dp (by simp)) of5.size
          have HD5 := Lib.hid (HD.out _ _ _ _ _ hd5 he4 hlt6)
          have p0 := kp5.cell 0 _ rfl
          have pl := kp5.lt
          have C5 := Lib.hid (c5.below hba)
          have KP5 := Lib.hid kp5
          have KR5 := Lib.hid kr5
          clear hd4 hd5 he4 hlt6 c5 of5 kp5 kr5 hba HS HD HS4 ST4 KP0
          go_wp2_with fail
          with_reducible refine HD5.out.mono ?_
          rintro e w7 ⟨rfl, ⟨A7, n7, c7, es7, dc7, ⟨hd7, he7⟩, hrel7⟩, of7⟩
          have kp7 := (KP5.out.off of7 HPS.out.2).alloc (.cells #[.bool d, .int .i64 E, .int .i64 N] 83)
          have kr7 := (KR5.out.off of7 (by simp; omega)).alloc (.cells #[.bool d, .int .i64 E, .int .i64 N] 83)
          have kd7 := BlkL.new w7 [.bool d, .int .i64 E, .int .i64 N] 83
          have st7 : PlS w w7 s b bw dp [dp] k' v' l' nx' dc7 := ⟨C5.out.putX (by simp) hdn hdg of7, ⟨A7, n7, c7, es7, hd7, he7⟩, hrel7, by simp, hdg, hdn⟩
          have ST8 := Lib.hid (st7.alloc (.cells #[.bool d, .int .i64 E, .int .i64 N] 83))
          have HSM := Lib.hid (same14r_any (w7.alloc (.cells #[.bool d, .int .i64 E, .int .i64 N] 83)) d E N)
          clear p0 pl
          have r0 := kr7.cell 0 _ rfl
          have r1 := kr7.cell 1 _ rfl
          have r2 := kr7.cell 2 _ rfl
          have rl := kr7.lt
          have t0 := kd7.cell 0 _ rfl
          have t1 := kd7.cell 1 _ rfl
          have t2 := kd7.cell 2 _ rfl
          have tl := kd7.lt
          have hff : ((f : Int) != f) = false := by simp
          have KP7 := Lib.hid kp7
          clear hd7 he7 hrel7 of7 kp7 kr7 kd7 st7 HD5 C5 KP5 KR5
          go_wp2_with fail
          with_reducible refine HSM.out.mono ?_
          rintro e w9 ⟨rfl, hb9⟩
          have KP := Lib.hid (KP7.out.below hb9)
          have STW := Lib.hid (ST8.out.below hb9)
          clear hb9 HSM KP7 ST8 r0 r1 r2 rl t0 t1 t2 tl
          have HE := Lib.hid (entsC _ _ _ _ _ _ _ _ _ _ STW.out.sh)
          go_wp2_with fail
          with_reducible refine HE.out.mono ?_
          rintro e w10 ⟨A1, c1, es1, rfl, hown, hee, hkeys, hb10⟩
          have st10 := STW.out.below hb10
          have kp10 := KP.out.below hb10
          obtain ⟨A11, n11, c11, es11, hd11, he11⟩ := st10.dr
          have hn11 : n11 = l'.length := by rw [← hd11.ver.len, ← he11, List.length_map]
          have hn10 : l'.length ≤ 4096 := st10.sh.wfv.1.len
          subst hn11
          have d0 := hd11.c0
          have d1 := hd11.c1
          have p0 := kp10.cell 0 _ rfl
          have hdl := hd11.lt
          have hpl := kp10.lt
          have hd0 : Below w10.heap.size w10 w10.drew := (Below.refl _ _).drew
          obtain ⟨pb, hP1, hP2⟩ := pends_any w s b bw dp [dp] k' v' l' nx' dc7 st10.rel who
          have hpp : (pb != pb) = false := by simp
          have hvv : ((v' : Int) != (v' : Int)) = false := by simp
          have hvk10 := st10.sh.wfv.2.1
          have HKF : Hid (∀ W, Below w10.heap.size w10 W → (W.cell? ⟨P, 0, none⟩ = some (.int .i64 who) ∧ W.cell? ⟨dp, 0, none⟩ = some (.int .i64 (v' : Int)) ∧ W.cell? ⟨dp, 1, none⟩ = some (.slice A11 l'.length c11))) := Lib.hid (fun W hb => ⟨(hb.cell (p := ⟨P, 0, none⟩) hpl).trans p0, (hb.cell (p := ⟨dp, 0, none⟩) hdl).trans d0, (hb.cell (p := ⟨dp, 1, none⟩) hdl).trans d1⟩)
          have HPN : Hid (∀ W, Below w10.heap.size w10 W → Calls Try.prog 43 #[.pointer (some ⟨s, 0, none⟩), .int .i64 who] W fun e w' => e = .returned (.bool pb) ∧ Below w10.heap.size w10 w') := Lib.hid (fun W hb => (hP1 W (st10.sh.below hb)).mono fun e w' ⟨h1, h2⟩ => ⟨h1, h2 ▸ hb⟩)
          have HPD : Hid (∀ W, Below w10.heap.size w10 W → Calls Try.prog 44 #[.pointer (some ⟨dp, 0, none⟩), .int .i64 who] W fun e w' => e = .returned (.bool pb) ∧ Below w10.heap.size w10 w') := Lib.hid (fun W hb => (hP2 W _ _ _ _ (hd11.below hb)).mono fun e w' ⟨h1, h2⟩ => ⟨h1, h2 ▸ hb⟩)
          have HVN : Hid (∀ W, Below w10.heap.size w10 W → Calls Try.prog 45 #[.pointer (some ⟨s, 0, none⟩)] W fun e w' => e = .returned (.int .i64 (v' : Int)) ∧ Below w10.heap.size w10 w') := Lib.hid (fun W hb => (versionC _ W _ _ _ _ _ _ _ _ (st10.sh.below hb) (by omega)).mono fun e w' ⟨h1, h2⟩ => ⟨h1, h2 ▸ hb⟩)
          have HEN : Hid (∀ W, Below w10.heap.size w10 W → Calls Try.prog 47 #[.pointer (some ⟨s, 0, none⟩)] W fun e w' => ∃ A' c' es', e = .returned (.slice A' l'.length c') ∧ (VerA w' w'.heap.size [] A' l'.length c' es' ∧ es'.map KV.ent = l') ∧ Below w10.heap.size w10 w') := Lib.hid (fun W hb => (entriesC _ W _ _ _ _ _ _ _ _ (st10.sh.below hb)).mono fun e w' ⟨A', c', es', h1, h2, h3, h4⟩ => ⟨A', c', es', h1, ⟨h2, h3⟩, hb.trans (h4.mono hb.size)⟩)
          have HSM : Hid (∀ W A' c' es', Below w10.heap.size w10 W → (VerA W W.heap.size [] A' l'.length c' es' ∧ es'.map KV.ent = l') → Calls Try.prog 46 #[.slice A' l'.length c', .slice A11 l'.length c11] W fun e w' => e = .returned (.bool true) ∧ Below w10.heap.size w10 w') := Lib.hid (fun W A' c' es' hb hv => (same14_any W _ _ _ _ A' A11 l'.length c' c11 es' es11 hv.1 ((hd11.ver.below hb).more hb.size) (hv.2.trans he11.symm) (Nat.le_refl _) (Nat.le_refl _)).mono fun e w' ⟨h1, h2⟩ => ⟨h1, hb.trans (h2.mono hb.size)⟩)
          have hen : l'.length = 0 ∨ ∃ gl, A1 = some ⟨gl, 0, none⟩ ∧ EnM w10 w9.heap.size gl l'.length es1 := by
            rcases Nat.eq_zero_or_pos l'.length with hz | hz
            · exact .inl hz
            · exact .inr (hown.enM hz hkeys)
          have HEM := Lib.hid hen
          have HB10 := Lib.hid hb10
          have hlen0 : (0 : Int) ≤ (l'.length : Int) := by omega
          clear hP1 hP2 hen hb10 hown hee hkeys st10 kp10 hd11 he11 HE KP
          go_wp2_with fail
          go_region_held3 (fun w' => w'.cell? ⟨P, 0, none⟩ = some (.int .i64 who) ∧ w'.cell? ⟨dp, 0, none⟩ = some (.int .i64 (v' : Int)) ∧ w'.cell? ⟨dp, 1, none⟩ = some (.slice A11 l'.length c11))
            (first | (with_reducible exact HKF.out _ (by with_reducible assumption)) | exact HKF.out _ hd0)
            (first
            | ((with_reducible refine (HPN.out _ (by with_reducible assumption)).mono ?_); rintro e w5 ⟨rfl, hb5⟩)
            | ((with_reducible refine (HPD.out _ (by with_reducible assumption)).mono ?_); rintro e w5 ⟨rfl, hb5⟩)
            | ((with_reducible refine (HVN.out _ (by with_reducible assumption)).mono ?_); rintro e w5 ⟨rfl, hb5⟩)
            | ((with_reducible refine (HEN.out _ (by with_reducible assumption)).mono ?_); rintro e w5 ⟨A', c', es', rfl, hv5, hb5⟩)
            | ((with_reducible refine (HSM.out _ _ _ _ (by with_reducible assumption) (by with_reducible assumption)).mono ?_); rintro e w12 ⟨rfl, hb12⟩))
          all_goals
            have HBL := Lib.hid (HB10.out.trans (hb12.mono HB10.out.size))
            have HEM2 : Hid (l'.length = 0 ∨ ∃ gl, A1 = some ⟨gl, 0, none⟩ ∧ EnM w12 w9.heap.size gl l'.length es1) := Lib.hid (HEM.out.elim .inl fun ⟨gl, h1, h2⟩ => .inr ⟨gl, h1, h2.below hb12⟩)
            clear HEM hb12 HKF HPN HPD HVN HEN HSM hd0 d0 d1 p0
            go_wp2
            go_loopw [133] (fun jv wr2 => ∃ j : Nat, j ≤ l'.length ∧ jv = .int .i64 ((j : Nat) : Int) ∧ Below w9.heap.size w9 wr2 ∧ (l'.length = 0 ∨ ∃ gl, A1 = some ⟨gl, 0, none⟩ ∧ EnM wr2 w9.heap.size gl l'.length es1)) (fun jv _ => l'.length - (intOf jv).toNat)
            case atStart => exact ⟨0, Nat.zero_le _, rfl, HBL.out, HEM2.out⟩
            case round =>
              obtain ⟨j, hj, rfl, hbw, hem⟩ := hrel
              clear HBL HEM2 HB10
              rcases Nat.lt_or_ge j l'.length with hjl | hjl
              · obtain ⟨gl, rfl, hm⟩ := hem.resolve_left (by omega)
                obtain ⟨xA, xn, xc, xz, xv, hy⟩ : ∃ xA xn xc xz xv, es1.getD j noKV = ⟨xA, xn, xc, xz, xv⟩ := ⟨_, _, _, _, _, rfl⟩
                obtain ⟨e0, z, e1⟩ := hm.cell j hjl
                have fz := hm.froz (j * 2 + 1) (by omega)
                have hgl := hm.lt
                have hge := hm.ge
                have hm2 := hm.val hjl 99
                have c0 := (hm2.cell j hjl).1
                have hkn := hm.kn j hjl
                rw [hy] at e0 c0 hkn
                simp only at e0 c0 hkn
                have k0 : (0 : Int) ≤ (j : Int) := by omega
                have k1 : (j : Int) < (l'.length : Int) := by omega
                have HM2 := Lib.hid hm2
                have HY := Lib.hid hy
                have HBW := Lib.hid (hbw.setCell (p := ⟨gl, j * 2 + 1, none⟩) (show w9.heap.size ≤ gl from hge) (.int .i64 99))
                clear hm hm2 hem hbw hy
                go_wp2_with fail
                generalize wr.setCell ⟨gl, j * 2 + 1, none⟩ (.int .i64 99) = wv at *
                go_loopw [146] (fun kv wr3 => ∃ m : Nat, m ≤ xn ∧ kv = .int .i64 ((m : Nat) : Int) ∧ Below w9.heap.size w9 wr3 ∧ EnM wr3 w9.heap.size gl l'.length es1) (fun kv _ => xn - (intOf kv).toNat)
                case atStart => exact ⟨0, Nat.zero_le _, rfl, HBW.out, HM2.out⟩
                case round =>
                  obtain ⟨m, hmx, rfl, hbw, hm⟩ := hrel
                  clear HM2 HBW c0
                  have c0 := (hm.cell j hjl).1
                  rw [HY.out] at c0
                  simp only at c0
                  have hgl := hm.lt
                  rcases Nat.lt_or_ge m xn with hmn | hmn
                  · have hkk := hm.key j hjl
                    rw [HY.out] at hkk
                    simp only at hkk
                    obtain ⟨g, rfl, hgE, hby⟩ := hkk.resolve_left (by omega)
                    obtain ⟨bx, hbx, e2⟩ := hby.cell m hmn
                    have fm := hby.froz m hmn
                    have hgl2 := hby.lt
                    have hne := hm.ne (by omega) hby (by omega)
                    have hx8 : bits .xor .u8 ((bx : Nat) : Int) 3 = ((bx ^^^ 3 : Nat) : Int) := u8_xor_nat _ 3 hbx (by omega)
                    have hxl : bx ^^^ 3 < 2 ^ 8 := Nat.xor_lt_two_pow (by omega) (by omega)
                    have HM3 := Lib.hid (hm.byte (o := m) hne (b := bx ^^^ 3) (by omega))
                    have HB3 := Lib.hid (hbw.setCell (p := ⟨g, m, none⟩) (show w9.heap.size ≤ g from hgE) (.int .u8 ((bx ^^^ 3 : Nat) : Int)))
                    have k2 : (0 : Int) ≤ (m : Int) := by omega
                    have k3 : (m : Int) < (xn : Int) := by omega
                    clear hm hbw hkk hby
                    generalize bx ^^^ 3 = bz at *
                    go_wp2
                    go_roundw
                    case rel => exact ⟨m + 1, by omega, by go_num, HB3.out, HM3.out⟩
                    case measure => simp [intOf]; omega
                  · obtain rfl : m = xn := by omega
                    have HM3 := Lib.hid hm
                    have HB3 := Lib.hid hbw
                    have k3 : ¬ (m : Int) < (m : Int) := by omega
                    clear hm hbw
                    go_wp2
                    go_roundw
                    case rel => exact ⟨j + 1, by omega, by go_num, HB3.out, .inr ⟨gl, rfl, HM3.out⟩⟩
                    case measure => simp [intOf]; omega
              · obtain rfl : j = l'.length := by omega
                have k1 : ¬ (l'.length : Int) < (l'.length : Int) := by omega
                have STZ := Lib.hid (STW.out.below hbw)
                clear hbw hem
                go_wp2
                go_roundw
                case rel => exact ⟨i + 1, k', _, l', _, _, by omega, by omega, by go_num, by omega, STZ.out⟩
                case measure => simp [intOf]; omega
        · have hopb : ((op : Int) != 0) = true := by simp; omega
          have hrelB := hrelS
          clear hrelS
          obtain ⟨pm, hpm⟩ : ∃ pm, pm = pn + 3 := ⟨_, rfl⟩
          have HSPR : Hid (Calls Try.prog 35 #[.slice pA pn pc] (wr.alloc (.cells #[.int .i64 who, .int .u8 (op : Int), .slice pA pn pc, .int .i64 px] 72)) fun e w' => ∃ F dF, e = .returned (.tuple #[.slice F pn dF, .slice F pm dF]) ∧ OwnB w' (wr.alloc (.cells #[.int .i64 who, .int .u8 (op : Int), .slice pA pn pc, .int .i64 px] 72)).heap.size F pm dF (pz ++ marks) ∧ Below (wr.alloc (.cells #[.int .i64 who, .int .u8 (op : Int), .slice pA pn pc, .int .i64 px] 72)).heap.size (wr.alloc (.cells #[.int .i64 who, .int .u8 (op : Int), .slice pA pn pc, .int .i64 px] 72)) w') := by
            subst hpm
            exact Lib.hid (spare_any _ pA pn pc pz (HK4.out.more hs4) (by omega))
          have hpm1 : pn ≤ pm := by omega
          have hpm2 : 0 < pm := by omega
          have hpm3 : pm ≤ 140737488355328 := by omega
          have HPM3 := Lib.hid hpm
          clear hpm
          have q0' := KP0.out.cell 2 _ rfl
          have hlP := KP0.out.lt
          have hzl := HK4.out.len
          have HA0 := Lib.hid ((HAG.out.key _ HPM.out).1)
          simp only at HA0
          go_wp2_with fail
          generalize wr.alloc (.cells #[.int .i64 who, .int .u8 (op : Int), .slice pA pn pc, .int .i64 px] 72) = w4 at *
          generalize wr.heap.size = P at *
          with_reducible refine HSPR.out.mono ?_
          rintro e w5 ⟨F, dF, rfl, ho5, hb5⟩
          obtain ⟨g, rfl, hg, hby⟩ := ho5.bys (by omega)
          have st5 := (ST4.out.addX hb5 hg hby.lt).below (Below.refl _ _).drew
          have hgP : g ≠ P := by omega
          have hgn : g ∉ [s, b, bw] := fun hm => by have := ST4.out.lt g (by simp only [List.mem_cons, List.not_mem_nil, or_false] at hm ⊢; rcases hm with h | h | h <;> simp [h]); omega
          have hgd : g ≠ dp := fun hm => by have := ST4.out.lt g (by simp [hm]); omega
          have hgE : w.heap.size ≤ g := by omega
          have hdn := ST4.out.dn
          have hdg := ST4.out.dge
          have sa0 : StA w w5.drew s b bw dp [g, dp] k v l nx dc P [.int .i64 who, .int .u8 (op : Int), .slice pA pn pc, .int .i64 px] w4.heap.size (some ⟨g, 0, none⟩) pm dF (pz ++ marks) := ⟨st5.sh, st5.dr, (KP0.out.below hb5).drew, ho5, hb5.size⟩
          obtain ⟨E, nx', hS, hD⟩ := starts_any w s b bw dp [g, dp] k v l nx dc hrelB (by simp) who op pn px pz
          have hEE : ((E : Int) != (E : Int)) = false := by simp
          have hkeyA : ∀ W, OwnB W w4.heap.size (some ⟨g, 0, none⟩) pm dF (pz ++ marks) → Arg W W.heap.size (some ⟨g, 0, none⟩) pn dF pz := fun W ho => by
            have := ho.arg.take (k := pn) (by omega)
            rwa [List.take_left' hzl] at this
          have hup : ∀ x ∈ [s, b, bw], x ∈ dp :: s :: b :: bw :: [g, dp] := by
            intro x hx
            simp only [List.mem_cons, List.not_mem_nil, or_false] at hx ⊢
            rcases hx with h | h | h <;> simp [h]
          have HST : Hid (∀ W, StA w W s b bw dp [g, dp] k v l nx dc P [.int .i64 who, .int .u8 (op : Int), .slice pA pn pc, .int .i64 px] w4.heap.size (some ⟨g, 0, none⟩) pm dF (pz ++ marks) → Calls Try.prog 36 #[.pointer (some ⟨s, 0, none⟩), .int .i64 who, .int .u8 (op : Int), .slice (some ⟨g, 0, none⟩) pn dF, .int .i64 px] W fun e w' => e = .returned (.int .i64 (E : Int)) ∧ StA w w' s b bw dp [g, dp] k v l nx' dc P [.int .i64 who, .int .u8 (op : Int), .slice pA pn pc, .int .i64 px] w4.heap.size (some ⟨g, 0, none⟩) pm dF (pz ++ marks)) :=
            Lib.hid (fun W sa => (hS W _ _ sa.sh (hkeyA W sa.fo)).mono fun e w' ⟨h1, h2, h3⟩ => ⟨h1, ⟨h2, by
              obtain ⟨A4, n4, c4, es4, hd4, he4⟩ := sa.dr
              exact ⟨A4, n4, c4, es4, hd4.off h3 hdn (h3.mono hup), he4⟩, sa.kp.off h3 HPS.out.1, sa.fo.off h3 (Apt.mk hgn) (by omega), Nat.le_trans sa.lt h3.size⟩⟩)
          have HDT : Hid (∀ W, StA w W s b bw dp [g, dp] k v l nx' dc P [.int .i64 who, .int .u8 (op : Int), .slice pA pn pc, .int .i64 px] w4.heap.size (some ⟨g, 0, none⟩) pm dF (pz ++ marks) → Calls Try.prog 37 #[.pointer (some ⟨dp, 0, none⟩), .int .i64 who, .int .u8 (op : Int), .slice pA pn pc, .int .i64 px] W fun e w' => e = .returned (.int .i64 (E : Int)) ∧ StC w w' s b bw dp [g, dp] k v l nx' P [.int .i64 who, .int .u8 (op : Int), .slice pA pn pc, .int .i64 px] w4.heap.size (some ⟨g, 0, none⟩) pm dF (pz ++ marks)) :=
            Lib.hid (fun W sb => by
              obtain ⟨A4, n4, c4, es4, hd4, he4⟩ := sb.dr
              refine (hD W w.heap.size pA pc A4 n4 c4 es4 hd4 he4 (fun y hy => ?_) (HA0.out.below sb.sh.bel) sb.sh.bel.size).mono fun e w' ⟨h1, h2, h3⟩ => ⟨h1, ⟨sb.sh.putX (by simp) hdn hdg h3, h2, sb.kp.off h3 HPS.out.2, sb.fo.off h3 (Apt.mk (by simpa using hgd)) (by omega)⟩⟩
              rcases List.mem_cons.1 hy with e | e
              · rw [e]; exact sb.sh.allX _ (by simp)
              · exact sb.sh.allX _ e)
          have HKT : Hid (∀ W, StC w W s b bw dp [g, dp] k v l nx' P [.int .i64 who, .int .u8 (op : Int), .slice pA pn pc, .int .i64 px] w4.heap.size (some ⟨g, 0, none⟩) pm dF (pz ++ marks) → Calls Try.prog 38 #[.slice (some ⟨g, 0, none⟩) pm dF, .slice pA pn pc] W fun e w' => e = .returned (.bool true) ∧ StC w w' s b bw dp [g, dp] k v l nx' P [.int .i64 who, .int .u8 (op : Int), .slice pA pn pc, .int .i64 px] w4.heap.size (some ⟨g, 0, none⟩) pm dF (pz ++ marks)) := by
            have hpm := HPM3.out
            clear HPM3
            subst hpm
            exact Lib.hid (fun W sc => (kept_any W _ _ (some ⟨g, 0, none⟩) pA pn pc dF pz sc.fo.arg (HA0.out.below sc.sh.bel)).mono fun e w' ⟨h1, t, h2⟩ => ⟨h1, by
              subst h2
              obtain ⟨A4, n4, c4, es4, dc4, ⟨hd4, he4⟩, hr4⟩ := sc.dr
              exact ⟨sc.sh.drewN t, ⟨A4, n4, c4, es4, dc4, ⟨hd4.below (below_drews (Below.refl _ _) t), he4⟩, hr4⟩, sc.kp.drewN t, sc.fo.drewN t⟩⟩)
          have HKA : Hid (∀ W nx, StA w W s b bw dp [g, dp] k v l nx dc P [.int .i64 who, .int .u8 (op : Int), .slice pA pn pc, .int .i64 px] w4.heap.size (some ⟨g, 0, none⟩) pm dF (pz ++ marks) → (W.cell? ⟨P, 0, none⟩ = some (.int .i64 who) ∧ W.cell? ⟨P, 1, none⟩ = some (.int .u8 (op : Int)) ∧ W.cell? ⟨P, 2, none⟩ = some (.slice pA pn pc) ∧ W.cell? ⟨P, 3, none⟩ = some (.int .i64 px))) := Lib.hid (fun W nx sa => ⟨sa.kp.cell 0 _ rfl, sa.kp.cell 1 _ rfl, sa.kp.cell 2 _ rfl, sa.kp.cell 3 _ rfl⟩)
          have HKC : Hid (∀ W, StC w W s b bw dp [g, dp] k v l nx' P [.int .i64 who, .int .u8 (op : Int), .slice pA pn pc, .int .i64 px] w4.heap.size (some ⟨g, 0, none⟩) pm dF (pz ++ marks) → (W.cell? ⟨P, 0, none⟩ = some (.int .i64 who) ∧ W.cell? ⟨P, 1, none⟩ = some (.int .u8 (op : Int)) ∧ W.cell? ⟨P, 2, none⟩ = some (.slice pA pn pc) ∧ W.cell? ⟨P, 3, none⟩ = some (.int .i64 px))) := Lib.hid (fun W sa => ⟨sa.kp.cell 0 _ rfl, sa.kp.cell 1 _ rfl, sa.kp.cell 2 _ rfl, sa.kp.cell 3 _ rfl⟩)
          have kp5 := KP0.out.below hb5
          have p0 := kp5.cell 0 _ rfl
          have p1 := kp5.cell 1 _ rfl
          have p2 := kp5.cell 2 _ rfl
          have p3 := kp5.cell 3 _ rfl
          have hpc3 : pm ≤ dF := ho5.arg.le
          clear q0' hS hD hkeyA hup st5 hby kp5 ho5 HSPR HK4
          go_wp2_with fail
          go_region_held3 (fun W => W.cell? ⟨P, 0, none⟩ = some (.int .i64 who) ∧ W.cell? ⟨P, 1, none⟩ = some (.int .u8 (op : Int)) ∧ W.cell? ⟨P, 2, none⟩ = some (.slice pA pn pc) ∧ W.cell? ⟨P, 3, none⟩ = some (.int .i64 px))
            (first | (with_reducible exact HKA.out _ _ (by with_reducible assumption)) | (with_reducible exact HKC.out _ (by with_reducible assumption)) | go_keep)
            (first
            | ((with_reducible refine (HST.out _ (by with_reducible assumption)).mono ?_); rintro e w6 ⟨rfl, sb6⟩)
            | ((with_reducible refine (HDT.out _ (by with_reducible assumption)).mono ?_); rintro e w7 ⟨rfl, sc7⟩)
            | ((with_reducible refine (HKT.out _ (by with_reducible assumption)).mono ?_); rintro e w8 ⟨rfl, sc8⟩))
          all_goals
            obtain ⟨A7, n7, c7, es7, dc7, ⟨hd7, he7⟩, hrel7⟩ := sc8.dr
            have st8 : PlS w w8 s b bw dp [g, dp] k v l nx' dc7 := ⟨sc8.sh, ⟨A7, n7, c7, es7, hd7, he7⟩, hrel7, by simp, hdg, hdn⟩
            have hby8 : ByS w8 g pm := by
              obtain ⟨g', e, _, hby⟩ := sc8.fo.bys (by omega)
              injection e with e; injection e with e
              subst e; exact hby
            have ST8 := Lib.hid st8
            have BY8 := Lib.hid hby8
            have KP8 := Lib.hid sc8.kp
            have jm0 : (0 : Int) ≤ (pm : Int) := by omega
            clear st8 hby8 hd7 he7 hrel7 sc8 HST HDT HKT HKA HKC p0 p1 p2 p3 sa0
            go_wp2
            go_loopw [68] (fun jv wr1 => ∃ j : Nat, j ≤ pm ∧ jv = .int .i64 ((j : Nat) : Int) ∧ PlS w wr1 s b bw dp [g, dp] k v l nx' dc7 ∧ ByS wr1 g pm ∧ BlkL wr1 P [.int .i64 who, .int .u8 (op : Int), .slice pA pn pc, .int .i64 px]) (fun jv _ => pm - (intOf jv).toNat)
            case atStart => exact ⟨0, Nat.zero_le _, rfl, ST8.out, BY8.out, KP8.out⟩
            case round =>
              obtain ⟨j, hj, rfl, st9, hby, kp9⟩ := hrel
              clear ST8 BY8 KP8
              rcases Nat.lt_or_ge j pm with hjm | hjm
              · obtain ⟨bx, hbx, e2⟩ := hby.cell j hjm
                have fm := hby.froz j hjm
                have hgl := hby.lt
                have hx8 : bits .xor .u8 ((bx : Nat) : Int) 1 = ((bx ^^^ 1 : Nat) : Int) := u8_xor_nat _ 1 hbx (by omega)
                have hxl : bx ^^^ 1 < 2 ^ 8 := Nat.xor_lt_two_pow (by omega) (by omega)
                have ST9 := Lib.hid (st9.putX (O := g) (by simp) hgn hgd hgE ((Off.refl _ _).setCell (p := ⟨g, j, none⟩) (by simp) (.int .u8 ((bx ^^^ 1 : Nat) : Int))))
                have BY9 := Lib.hid (hby.setB (g' := g) (o := j) (b := bx ^^^ 1) (by omega))
                have KP9 := Lib.hid (kp9.other g j (.int .u8 ((bx ^^^ 1 : Nat) : Int)) hgP)
                have k2 : (0 : Int) ≤ (j : Int) := by omega
                have k3 : (j : Int) < (pm : Int) := by omega
                clear st9 hby kp9
                generalize bx ^^^ 1 = bz at *
                go_wp2
                go_roundw
                case rel => exact ⟨j + 1, by omega, by go_num, ST9.out, BY9.out, KP9.out⟩
                case measure => simp [intOf]; omega
              · obtain rfl : j = pm := by omega
                have k3 : ¬ (j : Int) < (j : Int) := by omega
                have STW := Lib.hid (st9.dropX (by simp))
                have KP := Lib.hid kp9
                clear st9 hby kp9
                rename World => wB
                have HE := Lib.hid (entsC _ _ _ _ _ _ _ _ _ _ STW.out.sh)
                go_wp2_with fail
                with_reducible refine HE.out.mono ?_
                rintro e w10 ⟨A1, c1, es1, rfl, hown, hee, hkeys, hb10⟩
                have st10 := STW.out.below hb10
                have kp10 := KP.out.below hb10
                obtain ⟨A11, n11, c11, es11, hd11, he11⟩ := st10.dr
                have hn11 : n11 = l.length := by rw [← hd11.ver.len, ← he11, List.length_map]
                have hn10 : l.length ≤ 4096 := st10.sh.wfv.1.len
                subst hn11
                have d0 := hd11.c0
                have d1 := hd11.c1
                have p0 := kp10.cell 0 _ rfl
                have hdl := hd11.lt
                have hpl := kp10.lt
                have hd0 : Below w10.heap.size w10 w10.drew := (Below.refl _ _).drew
                obtain ⟨pb, hP1, hP2⟩ := pends_any w s b bw dp [dp] k v l nx' dc7 st10.rel who
                have hpp : (pb != pb) = false := by simp
                have hvv : ((v : Int) != (v : Int)) = false := by simp
                have hvk10 := st10.sh.wfv.2.1
                have HKF : Hid (∀ W, Below w10.heap.size w10 W → (W.cell? ⟨P, 0, none⟩ = some (.int .i64 who) ∧ W.cell? ⟨dp, 0, none⟩ = some (.int .i64 (v : Int)) ∧ W.cell? ⟨dp, 1, none⟩ = some (.slice A11 l.length c11))) := Lib.hid (fun W hb => ⟨(hb.cell (p := ⟨P, 0, none⟩) hpl).trans p0, (hb.cell (p := ⟨dp, 0, none⟩) hdl).trans d0, (hb.cell (p := ⟨dp, 1, none⟩) hdl).trans d1⟩)
                have HPN : Hid (∀ W, Below w10.heap.size w10 W → Calls Try.prog 43 #[.pointer (some ⟨s, 0, none⟩), .int .i64 who] W fun e w' => e = .returned (.bool pb) ∧ Below w10.heap.size w10 w') := Lib.hid (fun W hb => (hP1 W (st10.sh.below hb)).mono fun e w' ⟨h1, h2⟩ => ⟨h1, h2 ▸ hb⟩)
                have HPD : Hid (∀ W, Below w10.heap.size w10 W → Calls Try.prog 44 #[.pointer (some ⟨dp, 0, none⟩), .int .i64 who] W fun e w' => e = .returned (.bool pb) ∧ Below w10.heap.size w10 w') := Lib.hid (fun W hb => (hP2 W _ _ _ _ (hd11.below hb)).mono fun e w' ⟨h1, h2⟩ => ⟨h1, h2 ▸ hb⟩)
                have HVN : Hid (∀ W, Below w10.heap.size w10 W → Calls Try.prog 45 #[.pointer (some ⟨s, 0, none⟩)] W fun e w' => e = .returned (.int .i64 (v : Int)) ∧ Below w10.heap.size w10 w') := Lib.hid (fun W hb => (versionC _ W _ _ _ _ _ _ _ _ (st10.sh.below hb) (by omega)).mono fun e w' ⟨h1, h2⟩ => ⟨h1, h2 ▸ hb⟩)
                have HEN : Hid (∀ W, Below w10.heap.size w10 W → Calls Try.prog 47 #[.pointer (some ⟨s, 0, none⟩)] W fun e w' => ∃ A' c' es', e = .returned (.slice A' l.length c') ∧ (VerA w' w'.heap.size [] A' l.length c' es' ∧ es'.map KV.ent = l) ∧ Below w10.heap.size w10 w') := Lib.hid (fun W hb => (entriesC _ W _ _ _ _ _ _ _ _ (st10.sh.below hb)).mono fun e w' ⟨A', c', es', h1, h2, h3, h4⟩ => ⟨A', c', es', h1, ⟨h2, h3⟩, hb.trans (h4.mono hb.size)⟩)
                have HSM : Hid (∀ W A' c' es', Below w10.heap.size w10 W → (VerA W W.heap.size [] A' l.length c' es' ∧ es'.map KV.ent = l) → Calls Try.prog 46 #[.slice A' l.length c', .slice A11 l.length c11] W fun e w' => e = .returned (.bool true) ∧ Below w10.heap.size w10 w') := Lib.hid (fun W A' c' es' hb hv => (same14_any W _ _ _ _ A' A11 l.length c' c11 es' es11 hv.1 ((hd11.ver.below hb).more hb.size) (hv.2.trans he11.symm) (Nat.le_refl _) (Nat.le_refl _)).mono fun e w' ⟨h1, h2⟩ => ⟨h1, hb.trans (h2.mono hb.size)⟩)
                have hen : l.length = 0 ∨ ∃ gl, A1 = some ⟨gl, 0, none⟩ ∧ EnM w10 wB.heap.size gl l.length es1 := by
                  rcases Nat.eq_zero_or_pos l.length with hz | hz
                  · exact .inl hz
                  · exact .inr (hown.enM hz hkeys)
                have HEM := Lib.hid hen
                have HB10 := Lib.hid hb10
                have hlen0 : (0 : Int) ≤ (l.length : Int) := by omega
                clear hP1 hP2 hen hb10 hown hee hkeys st10 kp10 hd11 he11 HE KP
                go_wp2_with fail
                go_region_held3 (fun w' => w'.cell? ⟨P, 0, none⟩ = some (.int .i64 who) ∧ w'.cell? ⟨dp, 0, none⟩ = some (.int .i64 (v : Int)) ∧ w'.cell? ⟨dp, 1, none⟩ = some (.slice A11 l.length c11))
                  (first | (with_reducible exact HKF.out _ (by with_reducible assumption)) | exact HKF.out _ hd0)
                  (first
                  | ((with_reducible refine (HPN.out _ (by with_reducible assumption)).mono ?_); rintro e w5 ⟨rfl, hb5⟩)
                  | ((with_reducible refine (HPD.out _ (by with_reducible assumption)).mono ?_); rintro e w5 ⟨rfl, hb5⟩)
                  | ((with_reducible refine (HVN.out _ (by with_reducible assumption)).mono ?_); rintro e w5 ⟨rfl, hb5⟩)
                  | ((with_reducible refine (HEN.out _ (by with_reducible assumption)).mono ?_); rintro e w5 ⟨A', c', es', rfl, hv5, hb5⟩)
                  | ((with_reducible refine (HSM.out _ _ _ _ (by with_reducible assumption) (by with_reducible assumption)).mono ?_); rintro e w12 ⟨rfl, hb12⟩))
                all_goals
                  have HBL := Lib.hid (HB10.out.trans (hb12.mono HB10.out.size))
                  have HEM2 : Hid (l.length = 0 ∨ ∃ gl, A1 = some ⟨gl, 0, none⟩ ∧ EnM w12 wB.heap.size gl l.length es1) := Lib.hid (HEM.out.elim .inl fun ⟨gl, h1, h2⟩ => .inr ⟨gl, h1, h2.below hb12⟩)
                  clear HEM hb12 HKF HPN HPD HVN HEN HSM hd0 d0 d1 p0
                  go_wp2
                  go_loopw [133] (fun jv wr2 => ∃ j : Nat, j ≤ l.length ∧ jv = .int .i64 ((j : Nat) : Int) ∧ Below wB.heap.size wB wr2 ∧ (l.length = 0 ∨ ∃ gl, A1 = some ⟨gl, 0, none⟩ ∧ EnM wr2 wB.heap.size gl l.length es1)) (fun jv _ => l.length - (intOf jv).toNat)
                  case atStart => exact ⟨0, Nat.zero_le _, rfl, HBL.out, HEM2.out⟩
                  case round =>
                    obtain ⟨j, hj, rfl, hbw, hem⟩ := hrel
                    clear HBL HEM2 HB10
                    rcases Nat.lt_or_ge j l.length with hjl | hjl
                    · obtain ⟨gl, rfl, hm⟩ := hem.resolve_left (by omega)
                      obtain ⟨xA, xn, xc, xz, xv, hy⟩ : ∃ xA xn xc xz xv, es1.getD j noKV = ⟨xA, xn, xc, xz, xv⟩ := ⟨_, _, _, _, _, rfl⟩
                      obtain ⟨e0, z, e1⟩ := hm.cell j hjl
                      have fz := hm.froz (j * 2 + 1) (by omega)
                      have hgl := hm.lt
                      have hge := hm.ge
                      have hm2 := hm.val hjl 99
                      have c0 := (hm2.cell j hjl).1
                      have hkn := hm.kn j hjl
                      rw [hy] at e0 c0 hkn
                      simp only at e0 c0 hkn
                      have k0 : (0 : Int) ≤ (j : Int) := by omega
                      have k1 : (j : Int) < (l.length : Int) := by omega
                      have HM2 := Lib.hid hm2
                      have HY := Lib.hid hy
                      have HBW := Lib.hid (hbw.setCell (p := ⟨gl, j * 2 + 1, none⟩) (show wB.heap.size ≤ gl from hge) (.int .i64 99))
                      clear hm hm2 hem hbw hy
                      go_wp2_with fail
                      generalize wr.setCell ⟨gl, j * 2 + 1, none⟩ (.int .i64 99) = wv at *
                      go_loopw [146] (fun kv wr3 => ∃ m : Nat, m ≤ xn ∧ kv = .int .i64 ((m : Nat) : Int) ∧ Below wB.heap.size wB wr3 ∧ EnM wr3 wB.heap.size gl l.length es1) (fun kv _ => xn - (intOf kv).toNat)
                      case atStart => exact ⟨0, Nat.zero_le _, rfl, HBW.out, HM2.out⟩
                      case round =>
                        obtain ⟨m, hmx, rfl, hbw, hm⟩ := hrel
                        clear HM2 HBW c0
                        have c0 := (hm.cell j hjl).1
                        rw [HY.out] at c0
                        simp only at c0
                        have hgl := hm.lt
                        rcases Nat.lt_or_ge m xn with hmn | hmn
                        · have hkk := hm.key j hjl
                          rw [HY.out] at hkk
                          simp only at hkk
                          obtain ⟨g, rfl, hgE, hby⟩ := hkk.resolve_left (by omega)
                          obtain ⟨bx, hbx, e2⟩ := hby.cell m hmn
                          have fm := hby.froz m hmn
                          have hgl2 := hby.lt
                          have hne := hm.ne (by omega) hby (by omega)
                          have hx8 : bits .xor .u8 ((bx : Nat) : Int) 3 = ((bx ^^^ 3 : Nat) : Int) := u8_xor_nat _ 3 hbx (by omega)
                          have hxl : bx ^^^ 3 < 2 ^ 8 := Nat.xor_lt_two_pow (by omega) (by omega)
                          have HM3 := Lib.hid (hm.byte (o := m) hne (b := bx ^^^ 3) (by omega))
                          have HB3 := Lib.hid (hbw.setCell (p := ⟨g, m, none⟩) (show wB.heap.size ≤ g from hgE) (.int .u8 ((bx ^^^ 3 : Nat) : Int)))
                          have k2 : (0 : Int) ≤ (m : Int) := by omega
                          have k3 : (m : Int) < (xn : Int) := by omega
                          clear hm hbw hkk hby
                          generalize bx ^^^ 3 = bz at *
                          go_wp2
                          go_roundw
                          case rel => exact ⟨m + 1, by omega, by go_num, HB3.out, HM3.out⟩
                          case measure => simp [intOf]; omega
                        · obtain rfl : m = xn := by omega
                          have HM3 := Lib.hid hm
                          have HB3 := Lib.hid hbw
                          have k3 : ¬ (m : Int) < (m : Int) := by omega
                          clear hm hbw
                          go_wp2
                          go_roundw
                          case rel => exact ⟨j + 1, by omega, by go_num, HB3.out, .inr ⟨gl, rfl, HM3.out⟩⟩
                          case measure => simp [intOf]; omega
                    · obtain rfl : j = l.length := by omega
                      have k1 : ¬ (l.length : Int) < (l.length : Int) := by omega
                      have STZ := Lib.hid (STW.out.below hbw)
                      clear hbw hem
                      go_wp2
                      go_roundw
                      case rel => exact ⟨i + 1, k, _, l, _, _, by omega, by omega, by go_num, by omega, STZ.out⟩
                      case measure => simp [intOf]; omega
      · have h3' : (300 : Int) ≤ (i : Int) := by omega
        have S1 := Lib.hid (ST.out.alloc (.cells #[.int .i64 who, .int .u8 (op : Int), .slice pA pn pc, .int .i64 px] 72))
        clear st
        go_wp2_with fail
        generalize wr.alloc (.cells #[.int .i64 who, .int .u8 (op : Int), .slice pA pn pc, .int .i64 px] 72) = wz at *
        obtain ⟨A11, n11, c11, es11, hd11, he11⟩ := S1.out.dr
        have hn11 : n11 = l.length := by rw [← hd11.ver.len, ← he11, List.length_map]
        subst hn11
        have d1 := hd11.c1
        have hdl := hd11.lt
        have hd0 : Below wz.heap.size wz wz.drew := (Below.refl _ _).drew
        have st10 := S1.out
        have HKF : Hid (∀ W, Below wz.heap.size wz W → W.cell? ⟨dp, 1, none⟩ = some (.slice A11 l.length c11)) := Lib.hid (fun W hb => (hb.cell (p := ⟨dp, 1, none⟩) hdl).trans d1)
        have HEN : Hid (∀ W, Below wz.heap.size wz W → Calls Try.prog 47 #[.pointer (some ⟨s, 0, none⟩)] W fun e w' => ∃ A' c' es', e = .returned (.slice A' l.length c') ∧ (VerA w' w'.heap.size [] A' l.length c' es' ∧ es'.map KV.ent = l) ∧ Below wz.heap.size wz w') := Lib.hid (fun W hb => (entriesC _ W _ _ _ _ _ _ _ _ (st10.sh.below hb)).mono fun e w' ⟨A', c', es', h1, h2, h3, h4⟩ => ⟨A', c', es', h1, ⟨h2, h3⟩, hb.trans (h4.mono hb.size)⟩)
        have HSM : Hid (∀ W A' c' es', Below wz.heap.size wz W → (VerA W W.heap.size [] A' l.length c' es' ∧ es'.map KV.ent = l) → Calls Try.prog 46 #[.slice A' l.length c', .slice A11 l.length c11] W fun e w' => e = .returned (.bool true) ∧ Below wz.heap.size wz w') := Lib.hid (fun W A' c' es' hb hv => (same14_any W _ _ _ _ A' A11 l.length c' c11 es' es11 hv.1 ((hd11.ver.below hb).more hb.size) (hv.2.trans he11.symm) (Nat.le_refl _) (Nat.le_refl _)).mono fun e w' ⟨h1, h2⟩ => ⟨h1, hb.trans (h2.mono hb.size)⟩)
        clear st10 hd11 he11
        go_region_held3 (fun w' => w'.cell? ⟨dp, 1, none⟩ = some (.slice A11 l.length c11))
          (first | (with_reducible exact HKF.out _ (by with_reducible assumption)) | exact HKF.out _ hd0)
          (first
          | ((with_reducible refine (HEN.out _ (by with_reducible assumption)).mono ?_); rintro e w5 ⟨A', c', es', rfl, hv5, hb5⟩)
          | ((with_reducible refine (HSM.out _ _ _ _ (by with_reducible assumption) (by with_reducible assumption)).mono ?_); rintro e w12 ⟨rfl, hb12⟩))
        all_goals
          have hz := S1.out.sh.bel.trans (hb12.mono S1.out.sh.bel.size)
          clear HKF HEN HSM d1
          go_wp2
          exact bodyPost_ret (v := .bool true) (by simp [results, Try.results8, go_sem]) rfl ⟨rfl, hz⟩
    · obtain rfl : i = n := by omega
      have j1 : ¬ (i : Int) < (i : Int) := by omega
      have S1 := Lib.hid st
      clear st
      go_wp2_with fail
      rename World => wz
      obtain ⟨A11, n11, c11, es11, hd11, he11⟩ := S1.out.dr
      have hn11 : n11 = l.length := by rw [← hd11.ver.len, ← he11, List.length_map]
      subst hn11
      have d1 := hd11.c1
      have hdl := hd11.lt
      have hd0 : Below wz.heap.size wz wz.drew := (Below.refl _ _).drew
      have st10 := S1.out
      have HKF : Hid (∀ W, Below wz.heap.size wz W → W.cell? ⟨dp, 1, none⟩ = some (.slice A11 l.length c11)) := Lib.hid (fun W hb => (hb.cell (p := ⟨dp, 1, none⟩) hdl).trans d1)
      have HEN : Hid (∀ W, Below wz.heap.size wz W → Calls Try.prog 47 #[.pointer (some ⟨s, 0, none⟩)] W fun e w' => ∃ A' c' es', e = .returned (.slice A' l.length c') ∧ (VerA w' w'.heap.size [] A' l.length c' es' ∧ es'.map KV.ent = l) ∧ Below wz.heap.size wz w') := Lib.hid (fun W hb => (entriesC _ W _ _ _ _ _ _ _ _ (st10.sh.below hb)).mono fun e w' ⟨A', c', es', h1, h2, h3, h4⟩ => ⟨A', c', es', h1, ⟨h2, h3⟩, hb.trans (h4.mono hb.size)⟩)
      have HSM : Hid (∀ W A' c' es', Below wz.heap.size wz W → (VerA W W.heap.size [] A' l.length c' es' ∧ es'.map KV.ent = l) → Calls Try.prog 46 #[.slice A' l.length c', .slice A11 l.length c11] W fun e w' => e = .returned (.bool true) ∧ Below wz.heap.size wz w') := Lib.hid (fun W A' c' es' hb hv => (same14_any W _ _ _ _ A' A11 l.length c' c11 es' es11 hv.1 ((hd11.ver.below hb).more hb.size) (hv.2.trans he11.symm) (Nat.le_refl _) (Nat.le_refl _)).mono fun e w' ⟨h1, h2⟩ => ⟨h1, hb.trans (h2.mono hb.size)⟩)
      clear st10 hd11 he11
      go_region_held3 (fun w' => w'.cell? ⟨dp, 1, none⟩ = some (.slice A11 l.length c11))
        (first | (with_reducible exact HKF.out _ (by with_reducible assumption)) | exact HKF.out _ hd0)
        (first
        | ((with_reducible refine (HEN.out _ (by with_reducible assumption)).mono ?_); rintro e w5 ⟨A', c', es', rfl, hv5, hb5⟩)
        | ((with_reducible refine (HSM.out _ _ _ _ (by with_reducible assumption) (by with_reducible assumption)).mono ?_); rintro e w12 ⟨rfl, hb12⟩))
      all_goals
        have hz := S1.out.sh.bel.trans (hb12.mono S1.out.sh.bel.size)
        clear HKF HEN HSM d1
        go_wp2
        exact bodyPost_ret (v := .bool true) (by simp [results, Try.results8, go_sem]) rfl ⟨rfl, hz⟩
end Go.Proofs.Ytpjgpiiibgogeaa
