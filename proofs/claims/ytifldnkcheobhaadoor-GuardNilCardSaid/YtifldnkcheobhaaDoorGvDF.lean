/- guard: copies of any hook; a ring in memory; New of any hooks -/
import Derived.Test.YtifldnkcheobhaaDoorGvC

/- guard: what New asks of any hooks; the copy of any hook. -/
namespace Go.Proofs.YtifldnkcheobhaaDoor
open Go.RowKit
set_option maxRecDepth 100000
set_option linter.unusedVariables false
set_option linter.unusedSimpArgs false
set_option maxHeartbeats 4000000

noncomputable def checkV (l : List HookV) : Nat := if 32 < l.length then 2 else leastF l
noncomputable def accF (l : List HookV) : Nat := l.foldl (fun a h => stepL a (chkF h.p)) 0
theorem accF_snoc (l : List HookV) (x : HookV) : accF (l ++ [x]) = stepL (accF l) (chkF x.p) := by simp [accF]
theorem guard_check_any (w : World) (B : Nat) (L : Value) (l : List HookV) (k : Int) (h : HksQ w B L l) (hB : B ≤ w.heap.size) (hr : ∀ x ∈ l, ProgR x.p) (hll : l.length ≤ 140737488355328) (hk : 1 ≤ k ∧ k ≤ 1000) :
    Calls Tryd.prog 28 #[L, .int .i64 k] w fun e w' => e = .returned (.int .i64 (checkV l : Int)) ∧ Below w.heap.size w w' := by
  have q1 : ¬ k < 1 := by omega
  have q2 : ¬ 1000 < k := by omega
  obtain ⟨LA, lc, rfl, h2, h3⟩ := h
  rcases Nat.lt_or_ge 32 l.length with hlt | hge
  · have hd : (32 : Int) < (l.length : Int) := by omega
    have hv : checkV l = 2 := if_pos hlt
    rw [hv]
    clear h2 h3 hr hv
    go_enter Tryd.func28, Tryd.ntmps28
    go_wp2
    go_ret
    exact ⟨rfl, Below.refl _ _⟩
  have hd : ¬ (32 : Int) < (l.length : Int) := by omega
  have hv : checkV l = accF l := if_neg (by omega)
  rw [hv]
  obtain ⟨R, hR⟩ : ∃ R, accF l = R := ⟨_, rfl⟩
  rw [hR]
  have HV := Lib.hid hR
  have H3 := Lib.hid h3
  have H2 := Lib.hid h2
  have HR := Lib.hid hr
  clear h2 h3 hr hv hR
  go_enter Tryd.func28, Tryd.ntmps28
  go_wp2_with fail
  go_loopw [5, 20] (fun lv iv wr => ∃ (i a : Nat), i ≤ l.length ∧ iv = .int .i64 (i : Int) ∧ lv = .int .i64 (a : Int) ∧ accF (l.take i) = a ∧ a ≤ 3 ∧ Below w.heap.size w wr) (fun _ iv _ => l.length - (intOf iv).toNat)
  case atStart => exact ⟨0, 0, Nat.zero_le _, rfl, rfl, rfl, by omega, Below.refl _ _⟩
  case round =>
    obtain ⟨i, a, hi, rfl, rfl, hacc, ha3, hb⟩ := hrel
    have HACC := Lib.hid hacc
    have HB := Lib.hid hb
    clear hacc
    rcases Nat.lt_or_ge i l.length with h1 | h1
    · have hii : (i : Int) < (l.length : Int) := by omega
      have hi1 : IntKind.i64.wrap ((i : Int) + 1) = ((i + 1 : Nat) : Int) := by rw [IntWalk.i64_in _ (by omega)]; omega
      cases LA with
      | none => rw [H2.out rfl] at h1; simp at h1
      | some ad =>
        obtain ⟨ha, hab, hcl⟩ := H3.out ad rfl
        obtain ⟨x, hx⟩ : ∃ x, l[i]? = some x := ⟨l[i], List.getElem?_eq_getElem h1⟩
        obtain ⟨hF1, Pv, hF2, hF3⟩ := hcl i x hx
        obtain ⟨fb, fo, rfl⟩ : ∃ fb fo, ad = ⟨fb, fo, none⟩ := ⟨_, _, ha⟩
        simp only at hF1 hF2 hab
        have y0 := (hb.cell (p := ⟨fb, fo + i * 2, none⟩) (by show fb < _; omega)).trans hF1
        have y1 := (hb.cell (p := ⟨fb, fo + i * 2 + 1, none⟩) (by show fb < _; omega)).trans hF2
        have hpr := HR.out x (List.mem_of_getElem? hx)
        have htk : l.take (i + 1) = l.take i ++ [x] := by
          rw [List.take_succ_eq_append_getElem h1]
          rw [List.getElem?_eq_getElem h1] at hx
          injection hx with hx
          rw [hx]
        have hac1 : accF (l.take (i + 1)) = stepL a (chkF x.p) := by rw [htk, accF_snoc, HACC.out]
        obtain ⟨PA, pc, rfl⟩ : ∃ PA pc, Pv = .slice PA x.p.length pc := by obtain ⟨A, c, h, _⟩ := hF3; exact ⟨A, c, h⟩
        obtain ⟨nm, pp⟩ := x
        simp only at hF1 hF2 hF3 y0 y1 hpr hac1
        have b4 := (Below.refl wr.heap.size wr).alloc (Nat.le_refl _) (.cells #[.string nm, .slice PA pp.length pc] 81)
        have b04 : Below w.heap.size w (wr.alloc (.cells #[.string nm, .slice PA pp.length pc] 81)) := hb.trans (b4.mono hb.size)
        have HC := Lib.hid (check_any (wr.alloc (.cells #[.string nm, .slice PA pp.length pc] 81)) B _ pp (hF3.below (b04.mono hB)) (Nat.le_trans hB b04.size) hpr)
        have HB4 := Lib.hid b04
        obtain ⟨r, hr0⟩ : ∃ r, chkF pp = r := ⟨_, rfl⟩
        have hr3 : r ≤ 3 := by rw [← hr0]; exact chkF_le pp
        rw [hr0] at hac1
        have HR0 := Lib.hid hr0
        have HAC := Lib.hid hac1
        clear hcl ha htk hx hF1 hF2 hF3 hb b4 b04 hr0 hac1
        go_wp2_with fail
        with_reducible refine HC.out.mono ?_
        rintro e w6 ⟨r', rfl, hcv, hof⟩
        obtain rfl : r' = r := by rw [chk_eq hcv]; exact HR0.out
        have HB6 : Hid (Below w.heap.size w w6) := Lib.hid (HB4.out.trans (hof.below HB4.out.size (by simp)))
        clear hof hcv
        rcases Nat.eq_zero_or_pos r' with z0 | z0
        · subst z0
          have hs : stepL a 0 = a := by unfold stepL; simp
          have HS := Lib.hid hs
          clear hs
          go_wp2
          go_roundw
          case rel => exact ⟨i + 1, a, by omega, rfl, rfl, by rw [HAC.out, HS.out], by omega, HB6.out⟩
          case measure => simp [intOf]; omega
        · have z1 : ((r' : Int) == 0) = false := by simp; omega
          have z2 : ((r' : Int) != 0) = true := by simp; omega
          have z3 : ¬ (r' : Int) = 0 := by omega
          rcases Nat.eq_zero_or_pos a with y | y
          · subst y
            have hs : stepL 0 r' = r' := by unfold stepL; rw [if_pos ⟨by omega, Or.inl rfl⟩]
            have HS := Lib.hid hs
            clear hs z3
            go_wp2
            go_roundw
            case rel => exact ⟨i + 1, r', by omega, rfl, rfl, by rw [HAC.out, HS.out], by omega, HB6.out⟩
            case measure => simp [intOf]; omega
          · have z4 : ((a : Int) == 0) = false := by simp; omega
            have z5 : ¬ (a : Int) = 0 := by omega
            rcases Nat.lt_or_ge r' a with g | g
            · have z6 : (r' : Int) < (a : Int) := by omega
              have hs : stepL a r' = r' := by unfold stepL; rw [if_pos ⟨by omega, Or.inr g⟩]
              have HS := Lib.hid hs
              clear hs z3 z5
              go_wp2
              go_roundw
              case rel => exact ⟨i + 1, r', by omega, rfl, rfl, by rw [HAC.out, HS.out], by omega, HB6.out⟩
              case measure => simp [intOf]; omega
            · have z6 : ¬ (r' : Int) < (a : Int) := by omega
              have hs : stepL a r' = a := by unfold stepL; rw [if_neg (by omega)]
              have HS := Lib.hid hs
              clear hs z3 z5
              go_wp2
              go_roundw
              case rel => exact ⟨i + 1, a, by omega, rfl, rfl, by rw [HAC.out, HS.out], by omega, HB6.out⟩
              case measure => simp [intOf]; omega
    · obtain rfl : i = l.length := by omega
      have hii : ¬ (l.length : Int) < (l.length : Int) := by omega
      have hq := HACC.out
      rw [List.take_length] at hq
      have he : a = R := by rw [← hq]; exact HV.out
      have HE := Lib.hid he
      clear hq he hb
      go_wp2
      go_ret
      exact ⟨by rw [HE.out] <;> rfl, HB.out⟩
theorem sclone_x (w : World) (s : ByteArray) (hl : s.size ≤ 281474976710656) :
    Calls Tryd.prog 41 #[.string s] w fun e w' => e = .returned (.string s) ∧ Below w.heap.size w w' := by
  have HC := Lib.hid (Tryd.stringslite_Clone s w hl)
  go_enter Tryd.func41, Tryd.ntmps41
  go_wp2_with fail
  with_reducible refine HC.out.mono ?_
  rintro e w' ⟨rfl, hb⟩
  have HB := Lib.hid hb
  clear hb
  go_wp2
  go_ret
  exact ⟨rfl, HB.out⟩
theorem Off.join {S T : List Nat} {w a b : World} (h : Off S w a) (k : Off T a b) (hT : ∀ y ∈ T, y ∈ S ∨ w.heap.size ≤ y) : Off S w b :=
  ⟨k.os.trans h.os, k.tape.trans h.tape, k.output.trans h.output, Nat.le_trans h.size k.size, fun i hi hn => (k.block i (Nat.lt_of_lt_of_le hi h.size) (fun e => by rcases hT i e with g | g; exact hn g; omega)).trans (h.block i hi hn)⟩
theorem mkP0 (w : World) (n : Nat) (hn : n ≤ 100) : (Instr.makeSlice 34 (.int .i64 0) (.int .i64 (n : Int))).run Tryd.prog w = .ok (.slice (some ⟨w.heap.size, 0, none⟩) 0 n) (w.alloc (.cells (List.replicate n (.slice none 0 0)).toArray 33)) := by
  obtain ⟨i0, hi, hz0, hz1, hz2⟩ := info_partsActs
  have h := run_make (P := Tryd.prog) w 34 33 i0 (.slice none 0 0) Tryd.underlying34 hi hz0 .i64 .i64 0 n (by omega) (by omega) (by rw [hz2]; omega) (by omega)
  rw [h]
  have e : madeCells (Value.slice none 0 0).cells ((n : Int).toNat * i0.size) = (List.replicate n (Value.slice none 0 0)).toArray := by
    rw [hz1, Nat.mul_one, Int.toNat_natCast]
    have := toList_madeCells_one (.slice none 0 0) n
    rw [← this]
    rfl
  rw [e]
  simp
theorem OwnS.roomN {w : World} {b B n : Nat} {x : Value} (h : BlkL w b (List.replicate n x)) (hB : B ≤ b) (hn : n ≤ 100) : OwnS w B 1 (some ⟨b, 0, none⟩) 0 n [] := by
  refine ⟨rfl, by omega, by unfold maxLen; omega, (fun e => by cases e), fun a ha => ?_⟩
  injection ha with ha
  subst ha
  refine ⟨rfl, hB, h.lt, fun j hj => ?_, fun j v hv => by simp at hv⟩
  have hj' : j < n := by omega
  exact ⟨by rw [Nat.zero_add, h.cell j x (by rw [List.getElem?_replicate]; simp [hj'])]; rfl, by rw [Nat.zero_add]; exact h.froz j (by simp; exact hj')⟩
theorem copied_any (w : World) (B : Nat) (nm : ByteArray) (Pv : Value) (p : List (List ActV)) (h : ProgQ w B Pv p) (hB : B ≤ w.heap.size) (hn : nm.size ≤ 140737488355328) (hp1 : p.length ≤ 32) (hp2 : ∀ f ∈ p, f.length ≤ 64) :
    Calls Tryd.prog 29 #[.agg #[.string nm, Pv]] w fun e w' => ∃ A c, e = .returned (.agg #[.string nm, .slice A p.length c]) ∧ ProgI w' w.heap.size w'.heap.size (.slice A p.length c) p ∧ Below w.heap.size w w' := by
  obtain ⟨iP, hiP, hP0, hP1, hP2⟩ := info_partsActs
  have hq0 := h
  obtain ⟨PA, pc, rfl, hPn, -⟩ := h
  have HPN := Lib.hid hPn
  have b1 := (Below.refl w.heap.size w).alloc (Nat.le_refl _) (.cells #[.string nm, .slice PA p.length pc] 81)
  have b2 := b1.alloc (by simp) (.cells #[.string ⟨#[]⟩, .slice none 0 0] 81)
  have b3 := b2.alloc (by simp <;> omega) (.cells (List.replicate p.length (.slice none 0 0)).toArray 33)
  have hp3 := hq0.below (b3.mono hB)
  have s1 : (w.alloc (.cells #[.string nm, .slice PA p.length pc] 81)).heap.size = w.heap.size + 1 := by simp
  have s2 : ((w.alloc (.cells #[.string nm, .slice PA p.length pc] 81)).alloc (.cells #[.string ⟨#[]⟩, .slice none 0 0] 81)).heap.size = w.heap.size + 1 + 1 := by simp
  have s3 : (((w.alloc (.cells #[.string nm, .slice PA p.length pc] 81)).alloc (.cells #[.string ⟨#[]⟩, .slice none 0 0] 81)).alloc (.cells (List.replicate p.length (.slice none 0 0)).toArray 33)).heap.size = w.heap.size + 3 := by simp
  have kb := ((BlkL.new w [.string nm, .slice PA p.length pc] 81).alloc (.cells #[.string ⟨#[]⟩, .slice none 0 0] 81)).alloc (.cells (List.replicate p.length (.slice none 0 0)).toArray 33)
  have kr := (BlkL.new (w.alloc (.cells #[.string nm, .slice PA p.length pc] 81)) [.string ⟨#[]⟩, .slice none 0 0] 81).alloc (.cells (List.replicate p.length (.slice none 0 0)).toArray 33)
  have km := BlkL.new ((w.alloc (.cells #[.string nm, .slice PA p.length pc] 81)).alloc (.cells #[.string ⟨#[]⟩, .slice none 0 0] 81)) (List.replicate p.length (.slice none 0 0)) 33
  rw [s1] at kr
  rw [s2] at km
  have HP2 := Lib.hid hp2
  clear b1 b2 hq0 hPn hp2
  go_enter Tryd.func29, Tryd.ntmps29
  go_wp2_with fail
  rw [mkP0 _ _ (by omega)]
  simp only [Result.andThen]
  rw [Oper.upon_value]
  rw [s2]
  clear s1 s2
  revert b3 hp3 s3 kb kr km
  generalize (((w.alloc (.cells #[.string nm, .slice PA p.length pc] 81)).alloc (.cells #[.string ⟨#[]⟩, .slice none 0 0] 81)).alloc (.cells (List.replicate p.length (.slice none 0 0)).toArray 33)) = w3
  intro b3 hp3 s3 kb kr km
  have HB3 := Lib.hid b3
  have HP := Lib.hid hp3
  have KB := Lib.hid kb
  have KR := Lib.hid kr
  have KM := Lib.hid km
  have bx1 := kb.cell 1 _ rfl
  have bx0 := kb.cell 0 _ rfl
  have bxl := kb.lt
  clear b3 hp3 kb kr km
  go_wp2_with fail
  go_loopw [3, 13] (fun lv iv wr => ∃ i : Nat, i ≤ p.length ∧ iv = .int .i64 (i : Int) ∧ ∃ A c Fs, lv = .slice A i c ∧ PrgN wr (w.heap.size + 1 + 1) A c Fs (p.take i) ∧ Off [w.heap.size + 1 + 1] w3 wr ∧ ∀ y ∈ bkV A, y = w.heap.size + 1 + 1 ∨ w3.heap.size ≤ y) (fun _ iv _ => p.length - (intOf iv).toNat)
  case atStart => exact ⟨0, Nat.zero_le _, rfl, some ⟨w.heap.size + 1 + 1, 0, none⟩, p.length, [], rfl, ⟨OwnS.roomN KM.out (Nat.le_refl _) (by omega), fun i f hf => by simp at hf⟩, Off.refl _ _, by simp [bkV]⟩
  case round =>
    obtain ⟨i, hi, rfl, A, c, Fs, rfl, hN, hof, hbk⟩ := hrel
    have HN := Lib.hid hN
    have HF := Lib.hid hof
    have HK := Lib.hid hbk
    have bw : Below w.heap.size w wr := HB3.out.trans (hof.below (by have := HB3.out.size; omega) (by simp; omega))
    have HBW := Lib.hid bw
    rcases Nat.lt_or_ge i p.length with h1 | h1
    · have hii : (i : Int) < (p.length : Int) := by omega
      have hi1 : IntKind.i64.wrap ((i : Int) + 1) = ((i + 1 : Nat) : Int) := by rw [IntWalk.i64_in _ (by omega)]; omega
      cases PA with
      | none => rw [HPN.out rfl] at h1; simp at h1
      | some a =>
        obtain ⟨A9, c9, he9, -, h39⟩ := HP.out
        injection he9 with g1 g2 g3
        subst g1
        obtain ⟨ha, hab, hcl⟩ := h39 a rfl
        obtain ⟨f, hf⟩ : ∃ f, p[i]? = some f := ⟨p[i], List.getElem?_eq_getElem h1⟩
        obtain ⟨F, hF1, hF2⟩ := hcl i f hf
        obtain ⟨fb, fo, rfl⟩ : ∃ fb fo, a = ⟨fb, fo, none⟩ := ⟨_, _, ha⟩
        simp only at hF1 hab
        have bo : Below w.heap.size w3 wr := hof.below (by have := HB3.out.size; omega) (by simp; omega)
        have hF1' := (bo.cell (p := ⟨fb, fo + i, none⟩) (by show fb < _; omega)).trans hF1
        have hF3 := hF2.below (bo.mono hB)
        have hfl := HP2.out f (List.mem_of_getElem? hf)
        have HC := Lib.hid (clone_any wr B F f hF3 (Nat.le_trans hB bw.size) hfl)
        obtain ⟨FA, fc, rfl, -, -⟩ := hF3
        have htk : p.take (i + 1) = p.take i ++ [f] := by
          rw [List.take_succ_eq_append_getElem h1]
          rw [List.getElem?_eq_getElem h1] at hf
          injection hf with hf
          rw [hf]
        have HTK := Lib.hid htk
        have hpl : (p.take i).length = i := by rw [List.length_take]; omega
        have HPL := Lib.hid hpl
        clear hcl h39 ha htk hf hF1 hF2 hN hof hbk bw bo hpl g2 g3
        go_wp2_with fail
        with_reducible refine HC.out.mono ?_
        rintro e w5 ⟨A2, c2, rfl, ho2, hb5⟩
        have hs5 := hb5.size
        have b6 := (Below.refl w5.heap.size w5).alloc (Nat.le_refl _) (.cells #[.slice A2 f.length c2] 33)
        have b56 := hb5.trans (b6.mono hb5.size)
        have HSRC := Lib.hid (srcOne1 w5 (.slice A2 f.length c2) rfl 33)
        have hN6 := HN.out.below b56
        have hO6 := hN6.1
        rw [HPL.out] at hO6
        have HO6 := Lib.hid hO6
        have HN6 := Lib.hid hN6
        have hact := ((ActI.of_own ho2).offF (Nat.le_refl _) (Off.of_below (S := []) b6) (by simp)).wide (lo' := w.heap.size + 1 + 1) (by have := HF.out.size; omega) b6.size
        have HACT := Lib.hid hact
        have hna : ∀ y ∈ bkF (.slice A2 f.length c2), y ∉ bkV A := by
          intro y hy hy2
          have h1 := (HN.out.1.lt y hy2).2
          have h2 := ((ActI.of_own ho2).blk y hy).1
          omega
        have HNA := Lib.hid hna
        have HB6 := Lib.hid b56
        have hbb : w.heap.size + 1 + 1 ≤ (w5.alloc (.cells #[.slice A2 f.length c2] 33)).heap.size := by have := HF.out.size; have := b56.size; omega
        clear ho2 hb5 b6 b56 hN6 hO6 hact hna
        go_wp2_with (refine wpList_append_s Tryd.underlying34 hiP hP0 hP1 hP2 rfl rfl (.tmp 17) (.tmp 20) rfl rfl HO6.out (some ⟨w5.heap.size, 0, none⟩) 1 1 _ rfl HSRC.out (fun e => by cases e) (by omega) (by omega) hbb ?_)
        intro A3 c3 w6 ho6 hf6 hbk6
        have hnew : PrgN w6 (w.heap.size + 1 + 1) A3 c3 (Fs ++ [.slice A2 f.length c2]) (p.take (i + 1)) := by
          rw [HTK.out]
          exact HN6.out.snoc HACT.out HNA.out (by rw [HPL.out]; exact ho6) hf6 (fun y hy => (hbk6 y hy).elim Or.inl (fun q => Or.inr (by rw [q.1]; simp)))
        have HNW := Lib.hid hnew
        have hoff : Off [w.heap.size + 1 + 1] w3 w6 := ((HF.out.trans ((Off.of_below HB6.out).mono (S := []) (by simp)))).join hf6 (fun y hy => (HK.out y hy).imp (fun e => by simp [e]) id)
        have HOF := Lib.hid hoff
        have hsz6 : w3.heap.size ≤ (w5.alloc (.cells #[.slice A2 f.length c2] 33)).heap.size := Nat.le_trans HF.out.size HB6.out.size
        have hsz7 : w3.heap.size ≤ w5.heap.size + 1 := by simpa using hsz6
        have hkk : ∀ y ∈ bkV A3, y = w.heap.size + 1 + 1 ∨ w3.heap.size ≤ y := fun y hy => (hbk6 y hy).elim (fun q => HK.out y q) (fun q => Or.inr (by have h3 := q.1; omega))
        have HKK := Lib.hid hkk
        clear ho6 hf6 hbk6 hnew hoff hkk hsz6 hsz7
        go_wp2
        go_roundw
        case rel => exact ⟨i + 1, by omega, rfl, A3, c3, _, rfl, HNW.out, HOF.out, HKK.out⟩
        case measure => simp [intOf]; omega
    · obtain rfl : i = p.length := by omega
      have hii : ¬ (p.length : Int) < (p.length : Int) := by omega
      have hq := hN
      rw [List.take_length] at hq
      have hpi := hq.prog
      have kb := KB.out.off hof (by simp <;> omega)
      have kr := KR.out.off hof (by simp <;> omega)
      have KRr := Lib.hid kr
      have z0 := kb.cell 0 _ rfl
      have HS := Lib.hid (sclone_x wr nm (by omega))
      have HPI := Lib.hid hpi
      have hnk : ∀ y ∈ bkV A, y ≠ w.heap.size + 1 := fun y hy => by rcases hbk y hy with e | e <;> omega
      clear hN hq hpi hof hbk kb kr bw
      go_wp2_with fail
      with_reducible refine HS.out.mono ?_
      rintro e w7 ⟨rfl, hb7⟩
      have HB7 := Lib.hid hb7
      have kr7 := KRr.out.below hb7
      have r0 := kr7.cell 0 _ rfl
      have r1 := kr7.cell 1 _ rfl
      have rf0 := kr7.froz 0 (by simp)
      have rf1 := kr7.froz 1 (by simp)
      have rl := kr7.lt
      have KF := Lib.hid ((kr7.set 0 (.string nm) (by simp)).set 1 (.slice A p.length c) (by simp))
      clear hb7 kr7
      go_wp2
      have o8 : Off [w.heap.size + 1] w7 ((w7.setCell ⟨w.heap.size + 1, 0, none⟩ (.string nm)).setCell ⟨w.heap.size + 1, 1, none⟩ (.slice A p.length c)) := ((Off.refl [w.heap.size + 1] w7).setCell (by simp) _).setCell (by simp) _
      refine bodyPost_ret (v := .agg #[.string nm, .slice A p.length c]) (results_copied _ _ (w.heap.size + 1) _ _ rfl KF.out) rfl ⟨A, c, rfl, ?_, ?_⟩
      · exact (((HPI.out.off (Nat.le_refl _) (Off.of_below (S := []) HB7.out) (by simp)).off HB7.out.size o8 (by intro y hy; left; simp at hy; omega)).wide (by omega) (Nat.le_trans HB7.out.size o8.size))
      · exact (HBW.out.trans (HB7.out.mono HBW.out.size)).trans (o8.below (by have := HBW.out.size; have := HB7.out.size; omega) (by simp))
end Go.Proofs.YtifldnkcheobhaaDoor


/- guard: a ring in memory. -/
namespace Go.Proofs.YtifldnkcheobhaaDoor
open Go.RowKit
set_option maxRecDepth 100000
set_option linter.unusedVariables false
set_option linter.unusedSimpArgs false
set_option maxHeartbeats 4000000

structure GH where
  nm : ByteArray
  p : List (List ActV)
  hk : Nat
  Pv : Value
  lo : Nat
  hi : Nat
abbrev GH.hook (g : GH) : HookV := ⟨g.nm, g.p⟩
abbrev GH.ptr (g : GH) : Value := .pointer (some ⟨g.hk, 0, none⟩)
/-- A ring with the hooks gs, the limit k, strikes st; its blocks from B on; names in the map: ns. -/
structure RingX (w : World) (B rb mb : Nat) (hA : Option Addr) (hc : Nat) (gs : List GH) (k : Int) (ns : List ByteArray) (st : Nat → Int) : Prop where
  blk : BlkL w rb [.slice hA gs.length hc, .map (some mb), .int .i64 k]
  own : OwnS w B 1 hA gs.length hc (gs.map GH.ptr)
  map : GmR w mb ns
  hks : ∀ (i : Nat) (g : GH), gs[i]? = some g → BlkL w g.hk [.string g.nm, g.Pv, .int .i64 (st i)] ∧ ProgI w g.lo g.hi g.Pv g.p ∧ g.hi ≤ w.heap.size ∧ B ≤ g.lo
  low : B ≤ rb ∧ B ≤ mb ∧ rb ≠ mb ∧ rb ∉ bkV hA ∧ mb ∉ bkV hA
  sep : ∀ g ∈ gs, B ≤ g.hk ∧ ∀ y ∈ rb :: mb :: bkV hA, y ≠ g.hk ∧ (y < g.lo ∨ g.hi ≤ y)
  hh : ∀ g ∈ gs, ∀ g' ∈ gs, g'.hk < g.lo ∨ g.hi ≤ g'.hk
  nd : (gs.map GH.hk).Nodup
section
variable {w w' : World} {B rb mb : Nat} {hA : Option Addr} {hc : Nat} {gs : List GH} {k : Int} {ns : List ByteArray} {st : Nat → Int}
theorem RingX.below (h : RingX w B rb mb hA hc gs k ns st) (hb : Below w.heap.size w w') : RingX w' B rb mb hA hc gs k ns st :=
  ⟨h.blk.below hb, h.own.below hb, h.map.below hb h.map.lt, fun i g hg => by
    obtain ⟨h1, h2, h3, h4⟩ := h.hks i g hg
    exact ⟨h1.below hb, h2.off h3 (Off.of_below (S := []) hb) (by simp), Nat.le_trans h3 hb.size, h4⟩, h.low, h.sep, h.hh, h.nd⟩
theorem RingX.ltB (h : RingX w B rb mb hA hc gs k ns st) : ∀ g ∈ gs, g.hk < w.heap.size := fun g hg => by
  obtain ⟨i, hi⟩ := List.mem_iff_getElem?.1 hg
  exact (h.hks i g hi).1.lt
theorem RingX.put (h : RingX w B rb mb hA hc gs k ns st) (ho : Off [mb] w w') {ns' : List ByteArray} (hm : GmR w' mb ns') : RingX w' B rb mb hA hc gs k ns' st :=
  ⟨h.blk.off ho (by simp [h.low.2.2.1]), h.own.off ho (fun y hy e => by simp at e; subst e; exact h.low.2.2.2.2 hy), hm, fun i g hg => by
    obtain ⟨h1, h2, h3, h4⟩ := h.hks i g hg
    have hs := (h.sep g (List.mem_of_getElem? hg)).2 mb (by simp)
    exact ⟨h1.off ho (fun e => by simp at e; exact hs.1 e.symm), h2.off h3 ho (fun y hy => by simp at hy; subst hy; exact hs.2), Nat.le_trans h3 ho.size, h4⟩, h.low, h.sep, h.hh, h.nd⟩
theorem RingX.snoc {w9 w8 : World} {g : GH} {A3 : Option Addr} {c3 : Nat} (h : RingX w B rb mb hA hc gs k ns (fun _ => 0)) (hB : B ≤ w.heap.size) (hp : ProgI w g.lo g.hi g.Pv g.p) (hhi : g.hi ≤ w.heap.size) (hlo : B ≤ g.lo) (hk : g.hk = w.heap.size)
    (hz : ∀ y ∈ rb :: mb :: bkV hA, y < g.lo ∨ g.hi ≤ y) (hold : ∀ g' ∈ gs, g'.hk < g.lo) (hb9 : Below w.heap.size w w9) (hblk : BlkL w9 g.hk [.string g.nm, g.Pv, .int .i64 0])
    (ho8 : OwnS w8 B 1 A3 (gs.length + 1) c3 (gs.map GH.ptr ++ [g.ptr])) (hf8 : Off (bkV hA) w9 w8) (hbk : ∀ y ∈ bkV A3, y ∈ bkV hA ∨ w9.heap.size ≤ y) (hsz : w.heap.size < w9.heap.size) :
    RingX (w8.setCell ⟨rb, 0, none⟩ (.slice A3 (gs.length + 1) c3)) B rb mb A3 c3 (gs ++ [g]) k ns (fun _ => 0) := by
  have hrl := h.blk.lt
  have hml := h.map.lt
  have h9 := h.below hb9
  have r8 := h9.blk.off hf8 h.low.2.2.2.1
  have hgl := h.ltB
  have os : Off [rb] w8 (w8.setCell ⟨rb, 0, none⟩ (.slice A3 (gs.length + 1) c3)) := (Off.refl _ _).setCell (by simp) _
  have hA3rb : ∀ y ∈ bkV A3, y ≠ rb ∧ y ≠ mb := fun y hy => by
    rcases hbk y hy with e | e
    · exact ⟨fun q => h.low.2.2.2.1 (q ▸ e), fun q => h.low.2.2.2.2 (q ▸ e)⟩
    · exact ⟨by omega, by omega⟩
  have hlt : ∀ y ∈ bkV hA, y < w.heap.size := fun y hy => (h.own.lt y hy).2
  have step : ∀ (b : Nat) (xs : List Value), BlkL w9 b xs → b ∉ bkV hA → b ≠ rb → BlkL (w8.setCell ⟨rb, 0, none⟩ (.slice A3 (gs.length + 1) c3)) b xs := fun b xs hb h1 h2 => (hb.off hf8 h1).off os (by simp [h2])
  have stepP : ∀ (lo hi : Nat) (Pv : Value) (p : List (List ActV)), ProgI w lo hi Pv p → hi ≤ w.heap.size → (∀ y ∈ rb :: mb :: bkV hA, y < lo ∨ hi ≤ y) → ProgI (w8.setCell ⟨rb, 0, none⟩ (.slice A3 (gs.length + 1) c3)) lo hi Pv p := fun lo hi Pv p q h1 h2 =>
    ((q.off h1 (Off.of_below (S := []) hb9) (by simp)).off (Nat.le_trans h1 hb9.size) hf8 (fun y hy => h2 y (by simp [hy]))).off (Nat.le_trans h1 (Nat.le_trans hb9.size hf8.size)) os (fun y hy => h2 y (by simp at hy; simp [hy]))
  have hsz8 : w.heap.size ≤ (w8.setCell ⟨rb, 0, none⟩ (.slice A3 (gs.length + 1) c3)).heap.size := Nat.le_trans hb9.size (Nat.le_trans hf8.size os.size)
  have zA : ∀ (x : GH), (∀ y ∈ rb :: mb :: bkV hA, y ≠ x.hk ∧ (y < x.lo ∨ x.hi ≤ y)) → x.hk ≤ w.heap.size → x.hi ≤ w.heap.size → ∀ y ∈ rb :: mb :: bkV A3, y ≠ x.hk ∧ (y < x.lo ∨ x.hi ≤ y) := fun x hx h1 h2 y hy => by
    simp only [List.mem_cons] at hy
    rcases hy with rfl | rfl | hy
    · exact hx _ (by simp)
    · exact hx _ (by simp)
    · rcases hbk y hy with e | e
      · exact hx _ (by simp [e])
      · exact ⟨by omega, by omega⟩
  refine ⟨?_, ?_, ?_, ?_, ⟨h.low.1, h.low.2.1, h.low.2.2.1, fun e => (hA3rb _ e).1 rfl, fun e => (hA3rb _ e).2 rfl⟩, ?_, ?_, ?_⟩
  · have := r8.set 0 (.slice A3 (gs.length + 1) c3) (by simp)
    rw [List.length_append]
    exact this
  · rw [List.map_append, List.length_append]
    exact ho8.off os (fun y hy e => by simp at e; exact (hA3rb y hy).1 e)
  · exact (h9.map.off hf8 h.low.2.2.2.2).off os (by simp; exact fun e => h.low.2.2.1 e.symm)
  · intro i x hx
    rcases Nat.lt_or_ge i gs.length with hi | hi
    · rw [List.getElem?_append_left hi] at hx
      obtain ⟨h1, h2, h3, h4⟩ := h.hks i x hx
      have hs := (h.sep x (List.mem_of_getElem? hx)).2
      exact ⟨step _ _ (h1.below hb9) (fun e => (hs _ (by simp [e])).1 rfl) (fun e => (hs rb (by simp)).1 e.symm), stepP _ _ _ _ h2 h3 (fun y hy => (hs y hy).2), Nat.le_trans h3 hsz8, h4⟩
    · rw [List.getElem?_append_right hi] at hx
      obtain rfl : g = x := by
        cases hq : i - gs.length with
        | zero => rw [hq] at hx; simp at hx; exact hx
        | succ j => rw [hq] at hx; simp at hx
      exact ⟨step _ _ hblk (fun e => by have := hlt _ e; omega) (by omega), stepP _ _ _ _ hp hhi hz, Nat.le_trans hhi hsz8, hlo⟩
  · intro x hx
    rcases List.mem_append.1 hx with hx | hx
    · have hs := h.sep x hx
      obtain ⟨i, hi⟩ := List.mem_iff_getElem?.1 hx
      exact ⟨hs.1, zA x hs.2 (Nat.le_of_lt (hgl x hx)) (h.hks i x hi).2.2.1⟩
    · simp at hx
      subst hx
      refine ⟨by omega, zA x (fun y hy => ⟨?_, hz y hy⟩) (by omega) hhi⟩
      simp only [List.mem_cons] at hy
      rcases hy with rfl | rfl | hy
      · omega
      · omega
      · have := hlt _ hy; omega
  · intro x hx y hy
    rcases List.mem_append.1 hx with h1 | h1 <;> rcases List.mem_append.1 hy with h2 | h2
    · exact h.hh x h1 y h2
    · have e := List.mem_singleton.1 h2
      obtain ⟨i, hi⟩ := List.mem_iff_getElem?.1 h1
      have := (h.hks i x hi).2.2.1
      rw [e]
      omega
    · have e := List.mem_singleton.1 h1
      rw [e]
      exact Or.inl (hold y h2)
    · have e1 := List.mem_singleton.1 h1
      have e2 := List.mem_singleton.1 h2
      rw [e1, e2]
      omega
  · rw [List.map_append, List.nodup_append]
    refine ⟨h.nd, by simp, fun a ha b hb => ?_⟩
    simp at hb
    obtain ⟨x, hx, rfl⟩ := List.mem_map.1 ha
    have := hgl x hx
    omega
end
/-- What New leaves. -/
def NewP (w w' : World) (l : List HookV) (k : Int) (v : Value) : Prop :=
  (newV l ≠ 0 ∧ v = .pointer none) ∨ (newV l = 0 ∧ ∃ (rb mb : Nat) (hA : Option Addr) (hc : Nat) (gs : List GH), v = .pointer (some ⟨rb, 0, none⟩) ∧ RingX w' w.heap.size rb mb hA hc gs k (gs.map GH.nm) (fun _ => 0) ∧ gs.map GH.hook = l)
end Go.Proofs.YtifldnkcheobhaaDoor


/- guard: New of any hooks. -/
namespace Go.Proofs.YtifldnkcheobhaaDoor
open Go.RowKit
set_option maxRecDepth 100000
set_option linter.unusedVariables false
set_option linter.unusedSimpArgs false
set_option maxHeartbeats 4000000

theorem newV_bad {l : List HookV} (h : checkV l ≠ 0) : newV l = checkV l := by
  unfold checkV at h ⊢
  unfold newV
  by_cases h1 : 32 < l.length
  · rw [if_pos h1, if_pos h1]
  · rw [if_neg h1] at h ⊢
    rw [if_neg h1, if_pos h]
theorem newV_good {l : List HookV} (h : checkV l = 0) : l.length ≤ 32 ∧ (∀ x ∈ l, chkF x.p = 0) ∧ (¬ (nms l).Nodup → newV l = 8) ∧ ((nms l).Nodup → newV l = if l.all (fun h => nameB h.nm) then 0 else 16) := by
  unfold checkV at h
  by_cases h1 : 32 < l.length
  · rw [if_pos h1] at h; cases h
  · rw [if_neg h1] at h
    refine ⟨by omega, leastF_zero h, fun hn => ?_, fun hn => ?_⟩
    · unfold newV; rw [if_neg h1, if_neg (by omega), if_neg hn]
    · unfold newV; rw [if_neg h1, if_neg (by omega), if_pos hn]
theorem cnt_info : (Tryd.prog.info? 89).map (fun i => (i.zero, i.size, i.bytes)) = some (some (.pointer none), 1, 8) := by kernel_rfl
theorem info_partsCnt : ∃ i0, Tryd.prog.info? 89 = some i0 ∧ i0.zero = some (.pointer none) ∧ i0.size = 1 ∧ i0.bytes = 8 := by
  have h := cnt_info
  cases hh : Tryd.prog.info? 89 with
  | none => rw [hh] at h; cases h
  | some i0 =>
    rw [hh] at h
    simp only [Option.map_some, Option.some.injEq, Prod.mk.injEq] at h
    exact ⟨i0, rfl, h.1, h.2.1, h.2.2⟩
theorem gmr_new (w : World) : GmR (w.alloc (.map #[] 0)) w.heap.size [] := by
  have hom := World.ownsMap_made w Tryd.prog 9 RV
  exact ⟨.map [], hom, Nat.le_refl _, fun nm _ => rfl, fun i nm h => by simp at h⟩
theorem nodup_take {l : List HookV} {i : Nat} {x : HookV} (hx : l[i]? = some x) (hm : x.nm ∈ nms (l.take i)) : ¬ (nms l).Nodup := by
  intro hn
  obtain ⟨j, hj⟩ := List.mem_iff_getElem?.1 hm
  rw [List.getElem?_map, List.getElem?_take] at hj
  split at hj
  · rename_i hji
    have e1 : (nms l)[j]? = some x.nm := by rw [List.getElem?_map]; exact hj
    have e2 : (nms l)[i]? = some x.nm := by rw [List.getElem?_map, hx]; rfl
    have := (List.getElem?_inj (by have := (List.getElem?_eq_some_iff.1 e1).1; exact this) hn).1 (e1.trans e2.symm)
    omega
  · simp at hj
theorem new_any (w : World) (B : Nat) (L : Value) (l : List HookV) (k : Int) (h : HksQ w B L l) (hB : B ≤ w.heap.size) (hr : ∀ x ∈ l, ProgR x.p) (hll : l.length ≤ 140737488355328) (hnm : ∀ x ∈ l, x.nm.size ≤ 140737488351232) (hk : 1 ≤ k ∧ k ≤ 1000) :
    Calls Tryd.prog 15 #[L, .int .i64 k] w fun e w' => ∃ v, e = .returned (.tuple #[v, .int .i64 (newV l : Int)]) ∧ NewP w w' l k v ∧ Below w.heap.size w w' := by
  have HCK := Lib.hid (guard_check_any w B L l k h hB hr hll hk)
  rcases Nat.eq_zero_or_pos (checkV l) with hz | hz
  rotate_left
  · have hv : newV l = checkV l := newV_bad (by omega)
    rw [hv]
    obtain ⟨cv, hcv⟩ : ∃ cv, checkV l = cv := ⟨_, rfl⟩
    rw [hcv] at hz hv HCK ⊢
    have HV := Lib.hid hv
    have hz0 : ¬ (cv : Int) = 0 := by omega
    have hz1 : ((cv : Int) != 0) = true := by simp; omega
    clear hv hcv
    obtain ⟨LA, lc, rfl, -, -⟩ := h
    go_enter Tryd.func15, Tryd.ntmps15
    go_wp2_with fail
    with_reducible refine HCK.out.mono ?_
    rintro e w1 ⟨rfl, hb1⟩
    have HB1 := Lib.hid hb1
    clear hb1
    go_wp2
    go_ret2
    exact ⟨_, rfl, Or.inl ⟨by rw [HV.out]; omega, rfl⟩, HB1.out⟩
  obtain ⟨hl32, hchk, hnd1, hnd2⟩ := newV_good hz
  rw [hz] at HCK
  have HCH := Lib.hid hchk
  have HN1 := Lib.hid hnd1
  have HN2 := Lib.hid hnd2
  have HR := Lib.hid hr
  have HNM := Lib.hid hnm
  have HH := Lib.hid h
  obtain ⟨LA, lc, rfl, h2, h3⟩ := h
  have H3 := Lib.hid h3
  have H2 := Lib.hid h2
  clear hr hnm hchk hnd1 hnd2 hz h2 h3
  obtain ⟨iC, hiC, hC0, hC1, hC2⟩ := info_partsCnt
  go_enter Tryd.func15, Tryd.ntmps15
  go_wp2_with fail
  with_reducible refine HCK.out.mono ?_
  rintro e w1 ⟨rfl, hb1⟩
  have HB1 := Lib.hid hb1
  clear hb1
  go_wp2_with fail
  rw [run_makeMap_plain]
  simp only [Result.andThen]
  rw [Oper.upon_value]
  have b2 : Below w1.heap.size w1 (w1.alloc (.map #[] 0)) := (Below.refl w1.heap.size w1).alloc (Nat.le_refl _) _
  have hm := gmr_new w1
  have hsz : (w1.alloc (.map #[] 0)).heap.size = w1.heap.size + 1 := by simp
  have B2 := Lib.hid (HB1.out.trans (b2.mono HB1.out.size))
  have hw1 := HB1.out.size
  clear b2
  revert hm hsz B2
  generalize w1.alloc (.map #[] 0) = w2
  generalize w1.heap.size = mb at *
  intro hm hsz B2
  have hx0 : RingX (w2.alloc (.cells #[.slice none 0 0, .map (some mb), .int .i64 k] 86)) w.heap.size (mb + 1) mb none 0 [] k [] (fun _ => 0) := by
    have kr := BlkL.new w2 [.slice none 0 0, .map (some mb), .int .i64 k] 86
    rw [hsz] at kr
    have b3 := (Below.refl w2.heap.size w2).alloc (Nat.le_refl _) (.cells #[.slice none 0 0, .map (some mb), .int .i64 k] 86)
    exact ⟨kr, OwnS.nil _ _ _, hm.below b3 (by omega), (fun i g hg => by simp at hg), ⟨by omega, by omega, by omega, by simp [bkV], by simp [bkV]⟩, (fun g hg => by cases hg), (fun g hg => by cases hg), by simp⟩
  have b3 := (Below.refl w2.heap.size w2).alloc (Nat.le_refl _) (.cells #[.slice none 0 0, .map (some mb), .int .i64 k] 86)
  have B3 := Lib.hid (B2.out.trans (b3.mono B2.out.size))
  have hs3 : (w2.alloc (.cells #[.slice none 0 0, .map (some mb), .int .i64 k] 86)).heap.size = mb + 2 := by simp; omega
  go_upto_region 5 with (fail)
  clear b3 hm
  revert hx0 B3 hs3
  generalize w2.alloc (.cells #[.slice none 0 0, .map (some mb), .int .i64 k] 86) = w3
  intro hx0 B3 hs3
  have HX0 := Lib.hid hx0
  clear hx0
  go_wp2_with fail
  go_loopw [27] (fun iv wr => ∃ i : Nat, i ≤ l.length ∧ iv = .int .i64 (i : Int) ∧ ∃ hA hc gs, RingX wr w.heap.size (mb + 1) mb hA hc gs k (gs.map GH.nm) (fun _ => 0) ∧ gs.map GH.hook = l.take i ∧ (nms (l.take i)).Nodup ∧ Below w.heap.size w wr) (fun iv _ => l.length - (intOf iv).toNat)
  case atStart => exact ⟨0, Nat.zero_le _, rfl, none, 0, [], HX0.out, rfl, by simp, B3.out⟩
  case round =>
    obtain ⟨i, hi, rfl, hA, hc, gs, hX, hgs, hnd, hb⟩ := hrel
    have HX := Lib.hid hX
    have HGS := Lib.hid hgs
    have HND := Lib.hid hnd
    have HB := Lib.hid hb
    have hgl : gs.length = i := by have := congrArg List.length hgs; simp at this; omega
    have hnn : gs.map GH.nm = nms (l.take i) := by rw [← hgs]; simp [nms]
    have HNN := Lib.hid hnn
    rcases Nat.lt_or_ge i l.length with h1 | h1
    · have hii : (i : Int) < (l.length : Int) := by omega
      have hi1 : IntKind.i64.wrap ((i : Int) + 1) = ((i + 1 : Nat) : Int) := by rw [IntWalk.i64_in _ (by omega)]; omega
      cases LA with
      | none => rw [H2.out rfl] at h1; simp at h1
      | some ad =>
        obtain ⟨ha, hab, hcl⟩ := H3.out ad rfl
        obtain ⟨x, hx⟩ : ∃ x, l[i]? = some x := ⟨l[i], List.getElem?_eq_getElem h1⟩
        obtain ⟨hF1, Pv, hF2, hF3⟩ := hcl i x hx
        obtain ⟨fb, fo, rfl⟩ : ∃ fb fo, ad = ⟨fb, fo, none⟩ := ⟨_, _, ha⟩
        simp only at hF1 hF2 hab
        have y0 := (hb.cell (p := ⟨fb, fo + i * 2, none⟩) (by show fb < _; omega)).trans hF1
        have y1 := (hb.cell (p := ⟨fb, fo + i * 2 + 1, none⟩) (by show fb < _; omega)).trans hF2
        have hxm := List.mem_of_getElem? hx
        have hpo := chkF_ok (HCH.out x hxm) (HR.out x hxm)
        have hns := HNM.out x hxm
        have htk : l.take (i + 1) = l.take i ++ [x] := by
          rw [List.take_succ_eq_append_getElem h1]
          rw [List.getElem?_eq_getElem h1] at hx
          injection hx with hx
          rw [hx]
        have HTK := Lib.hid htk
        have hdup : x.nm ∈ nms (l.take i) → ¬ (nms l).Nodup := nodup_take hx
        obtain ⟨PA, pc, rfl⟩ : ∃ PA pc, Pv = .slice PA x.p.length pc := by obtain ⟨A, c, h, _⟩ := hF3; exact ⟨A, c, h⟩
        obtain ⟨nm, pp⟩ := x
        simp only at hF1 hF2 hF3 y0 y1 hpo hns hdup
        have b4 := (Below.refl wr.heap.size wr).alloc (Nat.le_refl _) (.cells #[.string nm, .slice PA pp.length pc] 81)
        have r4 := hX.below b4.drew
        have kh := (BlkL.new wr [.string nm, .slice PA pp.length pc] 81)
        have q1 := (hX.blk.below b4).cell 1 _ rfl
        have ql := (hX.blk.below b4).lt
        have k0 := kh.cell 0 _ rfl
        have k1 := kh.cell 1 _ rfl
        have b04 : Below w.heap.size w (wr.alloc (.cells #[.string nm, .slice PA pp.length pc] 81)).drew := hb.trans (b4.drew.mono hb.size)
        have HP4 := Lib.hid (hF3.below (b04.mono hB))
        have HPO := Lib.hid hpo
        have HB4 := Lib.hid b04
        have HX4 := Lib.hid r4
        have hlt4 : wr.heap.size < (wr.alloc (.cells #[.string nm, .slice PA pp.length pc] 81)).heap.size := by simp
        by_cases hseen : nm ∈ gs.map GH.nm
        · have hnew : newV l = 8 := HN1.out (hdup (by rw [← HNN.out]; exact hseen))
          have HNEW := Lib.hid hnew
          obtain ⟨j, hj⟩ := List.mem_iff_getElem?.1 hseen
          have hlk := r4.map.some_ hj (by omega)
          clear hX hgs hnd hb hnn hcl ha hx hF1 hF2 hF3 htk hdup b04 hnew hseen hj hpo hxm b4 r4
          go_upto_region 8 with (fail)
          revert kh q1 ql k0 k1 HP4 HB4 HX4 hlt4 hlk
          generalize wr.alloc (.cells #[.string nm, .slice PA pp.length pc] 81) = w4
          intro kh q1 ql k0 k1 HP4 HB4 HX4 hlt4 hlk
          go_region
          go_wp2
          go_ret2
          exact ⟨_, by rw [HNEW.out] <;> rfl, Or.inl ⟨by rw [HNEW.out]; omega, rfl⟩, HB4.out⟩
        · have hlk := r4.map.none_ hseen (by omega)
          have HSEEN := Lib.hid hseen
          have hpp : pp.length ≤ 32 := hpo.len
          have hfp : ∀ f ∈ pp, f.length ≤ 64 := fun f hf => by
            obtain ⟨j, hj⟩ := List.mem_iff_getElem?.1 hf
            exact (hpo.acts j f hj).1
          have HC := Lib.hid (copied_any (wr.alloc (.cells #[.string nm, .slice PA pp.length pc] 81)).drew B nm (.slice PA pp.length pc) pp HP4.out (Nat.le_trans hB b04.size) (by omega) hpp hfp)
          clear hX hgs hnd hb hnn hcl ha hx hF1 hF2 hF3 htk hdup b04 hseen hpo hxm b4 r4 hfp
          go_upto_region 8 with (fail)
          revert kh q1 ql k0 k1 HP4 HB4 HX4 hlt4 hlk HC
          generalize wr.alloc (.cells #[.string nm, .slice PA pp.length pc] 81) = w4
          intro kh q1 ql k0 k1 HP4 HB4 HX4 hlt4 hlk HC
          go_region
          clear hlk q1 ql kh
          go_wp2_with fail
          with_reducible refine HC.out.mono ?_
          rintro e w5 ⟨A, c, rfl, ho, hb5⟩
          have hs5 := hb5.size
          clear k0 k1
          have b6 := (Below.refl w5.heap.size w5).alloc (Nat.le_refl _) (.cells #[.string nm, .slice A pp.length c] 81)
          have b46 := hb5.trans (b6.mono hb5.size)
          have X6 := HX4.out.below b46
          have kh := BlkL.new w5 [.string nm, .slice A pp.length c] 81
          have P6 := Lib.hid (ho.off (Nat.le_refl _) (Off.of_below (S := []) b6) (by simp))
          have B6 := Lib.hid (HB4.out.trans (b46.mono HB4.out.size))
          have hs4 : w4.drew.heap.size = w4.heap.size := rfl
          have hs6 : (w5.alloc (.cells #[.string nm, .slice A pp.length c] 81)).heap.size = w5.heap.size + 1 := by simp
          clear ho hb5 b6 b46
          go_upto_region 12 with (fail)
          revert X6 kh P6 B6 hs6
          generalize w5.alloc (.cells #[.string nm, .slice A pp.length c] 81) = w6
          intro X6 kh P6 B6 hs6
          have hd6 : RingX w6.drew w.heap.size (mb + 1) mb hA hc gs k (gs.map GH.nm) (fun _ => 0) := X6.below (Below.refl _ _).drew
          obtain ⟨w7, hup, m7, of7⟩ := hd6.map.put HSEEN.out (by omega) (by simp; omega)
          rw [List.length_map, hgl] at hup
          have q1 := X6.blk.cell 1 _ rfl
          have q1l := X6.blk.lt
          have k0 := kh.cell 0 _ rfl
          go_region
          have X7 := Lib.hid (hd6.put of7 m7)
          have of67 : Off [mb] w6 w7 := ((Off.refl [mb] w6).drew).trans of7
          have hs7 := of67.size
          have hml4 : mb + 1 < w4.drew.heap.size := HX4.out.blk.lt
          have hml : mb < w6.heap.size := X6.map.lt
          have k7 := kh.off of67 (by simp; omega)
          have P7 := Lib.hid (P6.out.off (by omega) of67 (by intro y hy; left; simp at hy; omega))
          have B7 := Lib.hid (B6.out.trans (of67.below (by have := B6.out.size; omega) (by simp; omega)))
          clear hup q1 q1l m7 of7 of67 X6 hd6 k0 kh
          have b8 := (Below.refl w7.heap.size w7).alloc (Nat.le_refl _) (.cells #[.string nm, .slice A pp.length c, .int .i64 0] 91)
          have b9 := b8.alloc (by simp) (.cells #[.pointer (some ⟨w7.heap.size, 0, none⟩)] 89)
          have hh9 := ((BlkL.new w7 [.string nm, .slice A pp.length c, .int .i64 0] 91).alloc (.cells #[.pointer (some ⟨w7.heap.size, 0, none⟩)] 89)).drew
          have sz8 : (w7.alloc (.cells #[.string nm, .slice A pp.length c, .int .i64 0] 91)).heap.size = w7.heap.size + 1 := by simp
          have src : SrcS ((w7.alloc (.cells #[.string nm, .slice A pp.length c, .int .i64 0] 91)).alloc (.cells #[.pointer (some ⟨w7.heap.size, 0, none⟩)] 89)).drew 1 (some ⟨w7.heap.size + 1, 0, none⟩) 1 [.pointer (some ⟨w7.heap.size, 0, none⟩)] := by
            have q := (BlkL.new (w7.alloc (.cells #[.string nm, .slice A pp.length c, .int .i64 0] 91)) [.pointer (some ⟨w7.heap.size, 0, none⟩)] 89).drew
            rw [sz8] at q
            exact BlkL.srcS q (by simp [Value.oneCell']) 1 rfl
          have HSRC := Lib.hid src
          have HH9 := Lib.hid hh9
          have HB9 := Lib.hid b9.drew
          have X9 := X7.out.below b9.drew
          have O9 := X9.own
          rw [hgl] at O9
          have HO9 := Lib.hid O9
          have R9 := Lib.hid X9.blk
          have hrA := X9.low.2.2.2.1
          have hbb : w.heap.size ≤ ((w7.alloc (.cells #[.string nm, .slice A pp.length c, .int .i64 0] 91)).alloc (.cells #[.pointer (some ⟨w7.heap.size, 0, none⟩)] 89)).drew.heap.size := Nat.le_trans B7.out.size b9.drew.size
          have r7 := X7.out.blk
          rw [hgl] at r7 R9
          have x0 := k7.cell 0 _ rfl
          have x1 := k7.cell 1 _ rfl
          have xl := k7.lt
          have y0 := r7.cell 0 _ rfl
          have yl := r7.lt
          have ya := (r7.alloc (.cells #[.string nm, .slice A pp.length c, .int .i64 0] 91)).cell 0 _ rfl
          have yb := ((r7.alloc (.cells #[.string nm, .slice A pp.length c, .int .i64 0] 91)).alloc (.cells #[.pointer (some ⟨w7.heap.size, 0, none⟩)] 89)).cell 0 _ rfl
          have xa0 := (k7.alloc (.cells #[.string nm, .slice A pp.length c, .int .i64 0] 91)).cell 0 _ rfl
          have xb0 := ((k7.alloc (.cells #[.string nm, .slice A pp.length c, .int .i64 0] 91)).alloc (.cells #[.pointer (some ⟨w7.heap.size, 0, none⟩)] 89)).cell 0 _ rfl
          have nq1 : ¬ w7.heap.size = mb + 1 := by omega
          have nq2 : ¬ mb + 1 = w7.heap.size := by omega
          have nq3 : ¬ w7.heap.size = w5.heap.size := by omega
          have nq4 : ¬ w5.heap.size = w7.heap.size := by omega
          have nq5 : ¬ w7.heap.size + 1 = mb + 1 := by omega
          have nq6 : ¬ w7.heap.size + 1 = w5.heap.size := by omega
          have nq7 : ¬ mb + 1 = w7.heap.size + 1 := by omega
          clear b8 b9 src hh9 r7 k7 X9 O9
          go_wp2_with fail
          go_region_law (refine step_append_s Tryd.underlying84 hiC hC0 hC1 hC2 rfl rfl (.tmp 56) (.tmp 60) rfl rfl HO9.out (some ⟨w7.heap.size + 1, 0, none⟩) 1 1 _ rfl HSRC.out (fun e => by cases e) (by omega) (by omega) hbb ?_; intro A3 c3 w8 ho8 hf8 hbk8; have r8 := R9.out.off hf8 hrA; have d0 := r8.cell 0 _ rfl; have df := r8.froz 0 (by simp); have dl := r8.lt)
          all_goals
            have hnew := RingX.snoc (w := w7) (w8 := w8) (g := ⟨nm, pp, w7.heap.size, .slice A pp.length c, w4.drew.heap.size, w5.heap.size⟩) (A3 := A3) (c3 := c3) X7.out B7.out.size P7.out (by show w5.heap.size ≤ w7.heap.size; omega) HB4.out.size rfl
              (fun y hy => Or.inl (by
                simp only [List.mem_cons] at hy
                rcases hy with rfl | rfl | hy
                · exact HX4.out.blk.lt
                · exact HX4.out.map.lt
                · exact (HX4.out.own.lt y hy).2)) HX4.out.ltB HB9.out HH9.out (by rw [hgl]; exact ho8) hf8 (fun y hy => (hbk8 y hy).imp id (fun q => by have := q.1; simp only [World.size_drew, World.size_alloc] at this ⊢; omega)) (by simp; omega)
            rw [hgl] at hnew
            have HNEW : Hid (RingX (w8.setCell ⟨mb + 1, 0, none⟩ (.slice A3 (i + 1) c3)) w.heap.size (mb + 1) mb A3 c3 (gs ++ [(⟨nm, pp, w7.heap.size, .slice A pp.length c, w4.drew.heap.size, w5.heap.size⟩ : GH)]) k ((gs ++ [(⟨nm, pp, w7.heap.size, .slice A pp.length c, w4.drew.heap.size, w5.heap.size⟩ : GH)]).map GH.nm) (fun _ => 0)) := Lib.hid (by rw [List.map_append]; exact hnew)
            have HG2 : Hid ((gs ++ [(⟨nm, pp, w7.heap.size, .slice A pp.length c, w4.drew.heap.size, w5.heap.size⟩ : GH)]).map GH.hook = l.take (i + 1)) := Lib.hid (by rw [HTK.out, List.map_append, HGS.out]; rfl)
            have HND2 : Hid (nms (l.take (i + 1))).Nodup := Lib.hid (by
              rw [HTK.out]
              unfold nms
              rw [List.map_append, List.nodup_append]
              refine ⟨HND.out, by simp, fun a ha b hb e => ?_⟩
              simp at hb
              subst hb
              subst e
              exact HSEEN.out (by rw [HNN.out]; exact ha))
            have HB10 : Hid (Below w.heap.size w (w8.setCell ⟨mb + 1, 0, none⟩ (.slice A3 (i + 1) c3))) := Lib.hid (((B7.out.trans (HB9.out.mono B7.out.size)).trans (hf8.below hbb (fun y hy => (X7.out.own.lt y hy).1))).setCell (show w.heap.size ≤ mb + 1 by omega) _)
            clear hnew ho8 hf8 hbk8 r8 d0 df dl
            go_wp2
            go_roundw
            case rel => exact ⟨i + 1, by omega, rfl, A3, c3, _, HNEW.out, HG2.out, HND2.out, HB10.out⟩
            case measure => simp [intOf]; omega
    · obtain rfl : i = l.length := by omega
      have hii : ¬ (l.length : Int) < (l.length : Int) := by omega
      have hgs' : gs.map GH.hook = l := by rw [hgs, List.take_length]
      have hnd' : (nms l).Nodup := by rw [List.take_length] at hnd; exact hnd
      have hv := HN2.out hnd'
      have HV := Lib.hid hv
      have HGL := Lib.hid hgs'
      have r0 := hX.blk.cell 0 _ rfl
      rw [hgl] at r0
      have rl := hX.blk.lt
      clear hX hgs hnd hb hnn hgs' hnd' hv
      go_upto_region 16 with (fail)
      generalize wr = wx at *
      go_wp2_with fail
      go_loopw [70] (fun iv wr => ∃ j : Nat, j ≤ l.length ∧ iv = .int .i64 (j : Int) ∧ RingX wr w.heap.size (mb + 1) mb hA hc gs k (gs.map GH.nm) (fun _ => 0) ∧ (l.take j).all (fun h => nameB h.nm) = true ∧ Below w.heap.size w wr) (fun iv _ => l.length - (intOf iv).toNat)
      case atStart => exact ⟨0, Nat.zero_le _, rfl, HX.out, rfl, HB.out⟩
      case round =>
        obtain ⟨j, hj, rfl, hX, hall, hb⟩ := hrel
        have HX2 := Lib.hid hX
        have HALL := Lib.hid hall
        have HB2 := Lib.hid hb
        rcases Nat.lt_or_ge j l.length with h2 | h2
        · have hjj : (j : Int) < (l.length : Int) := by omega
          have hj1 : IntKind.i64.wrap ((j : Int) + 1) = ((j + 1 : Nat) : Int) := by rw [IntWalk.i64_in _ (by omega)]; omega
          obtain ⟨g, hg⟩ : ∃ g, gs[j]? = some g := ⟨gs[j], List.getElem?_eq_getElem (by omega)⟩
          have hlj : l[j]? = some g.hook := by rw [← HGL.out, List.getElem?_map, hg]; rfl
          obtain ⟨ab, ao, rfl, -, -, hcl, -⟩ := hX.own.cell (by omega)
          have p0 := hcl j _ (by rw [List.getElem?_map, hg]; rfl)
          obtain ⟨kb, -, -, -⟩ := hX.hks j g hg
          obtain ⟨nm, pp, hkb, Pv, lo, hi'⟩ := g
          simp only at hlj p0 kb
          have k0 := kb.cell 0 _ rfl
          have kl := kb.lt
          have htk : l.take (j + 1) = l.take j ++ [⟨nm, pp⟩] := by
            rw [List.take_succ_eq_append_getElem h2]
            rw [List.getElem?_eq_getElem h2] at hlj
            injection hlj with hlj
            rw [hlj]
          have HTK := Lib.hid htk
          have HMEM := Lib.hid (List.mem_of_getElem? hlj)
          have HI := Lib.hid (isName_any wr nm)
          obtain ⟨nb, hnb⟩ : ∃ nb, nameB nm = nb := ⟨_, rfl⟩
          rw [hnb] at HI
          have HNB := Lib.hid hnb
          clear hX hall hb hg hlj hcl kb htk hnb
          cases nb with
          | true =>
            go_wp2_with fail
            with_reducible refine HI.out.mono ?_
            rintro e w5 ⟨rfl, hb5⟩
            have HX5 := Lib.hid (HX2.out.below hb5)
            have HB5 := Lib.hid (HB2.out.trans (hb5.mono HB2.out.size))
            have HA5 : Hid ((l.take (j + 1)).all (fun h => nameB h.nm) = true) := Lib.hid (by rw [HTK.out, List.all_append, HALL.out]; simp [HNB.out])
            clear hb5 k0 p0
            go_wp2
            go_roundw
            case rel => exact ⟨j + 1, by omega, rfl, HX5.out, HA5.out, HB5.out⟩
            case measure => simp [intOf]; omega
          | false =>
            have h16 : newV l = 16 := by
              rw [HV.out, if_neg]
              intro he
              have := List.all_eq_true.1 he _ HMEM.out
              simp only at this
              rw [HNB.out] at this
              cases this
            have H16 := Lib.hid h16
            clear h16
            go_wp2_with fail
            with_reducible refine HI.out.mono ?_
            rintro e w5 ⟨rfl, hb5⟩
            have HB5 := Lib.hid (HB2.out.trans (hb5.mono HB2.out.size))
            clear hb5 k0 p0
            go_wp2
            go_ret2
            exact ⟨_, by rw [H16.out] <;> rfl, Or.inl ⟨by rw [H16.out]; omega, rfl⟩, HB5.out⟩
        · obtain rfl : j = l.length := by omega
          have hjj : ¬ (l.length : Int) < (l.length : Int) := by omega
          have h0 : newV l = 0 := by
            rw [HV.out, if_pos]
            rw [List.take_length] at hall
            exact hall
          have H0 := Lib.hid h0
          clear hX hall hb h0
          go_wp2
          go_ret2
          exact ⟨_, by rw [H0.out] <;> rfl, Or.inr ⟨H0.out, mb + 1, mb, hA, hc, gs, rfl, HX2.out, HGL.out⟩, HB2.out⟩
end Go.Proofs.YtifldnkcheobhaaDoor
