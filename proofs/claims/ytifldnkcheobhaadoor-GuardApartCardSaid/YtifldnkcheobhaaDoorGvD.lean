/- guard: what New asks of any hooks; the copy of any hook. -/
import Derived.Test.YtifldnkcheobhaaDoorGvC
namespace Go.Proofs.YtifldnkcheobhaaDoor
open Go.RowKit
set_option maxRecDepth 100000
set_option linter.unusedVariables false
set_option linter.unusedSimpArgs false
set_option maxHeartbeats 4000000

noncomputable def checkV (l : List HookV) : Nat := if 32 < l.length then 2 else leastF l
noncomputable def accF (l : List HookV) : Nat := l.foldl (fun a h => stepL a (chkF h.p)) 0
theorem accF_snoc (l : List HookV) (x : HookV) : accF (l ++ [x]) = stepL (accF l) (chkF x.p) := by simp [accF]
theorem guard_check_any (w : World) (B : Nat) (L : Value) (l : List HookV) (k : Int) (h : HksQ w B L l) (hB : B ≤ w.heap.size) (hr : ∀ x ∈ l, ProgR x.p) (hll : l.length ≤ 140737488355328) (hk : 1 ≤ k ∧ k ≤ 1000) :
    Calls Tryd.prog 28 #[L, .int .i64 k] w fun e w' => e = .returned (.int .i64 (checkV l : Int)) ∧ Below w.heap.size w w' := by
  have q1 : ¬ k < 1 := by omega
  have q2 : ¬ 1000 < k := by omega
  obtain ⟨LA, lc, rfl, h2, h3⟩ := h
  rcases Nat.lt_or_ge 32 l.length with hlt | hge
  · have hd : (32 : Int) < (l.length : Int) := by omega
    have hv : checkV l = 2 := if_pos hlt
    rw [hv]
    clear h2 h3 hr hv
    go_enter Tryd.func28, Tryd.ntmps28
    go_wp2
    go_ret
    exact ⟨rfl, Below.refl _ _⟩
  have hd : ¬ (32 : Int) < (l.length : Int) := by omega
  have hv : checkV l = accF l := if_neg (by omega)
  rw [hv]
  obtain ⟨R, hR⟩ : ∃ R, accF l = R := ⟨_, rfl⟩
  rw [hR]
  have HV := Lib.hid hR
  have H3 := Lib.hid h3
  have H2 := Lib.hid h2
  have HR := Lib.hid hr
  clear h2 h3 hr hv hR
  go_enter Tryd.func28, Tryd.ntmps28
  go_wp2_with fail
  go_loopw [5, 20] (fun lv iv wr => ∃ (i a : Nat), i ≤ l.length ∧ iv = .int .i64 (i : Int) ∧ lv = .int .i64 (a : Int) ∧ accF (l.take i) = a ∧ a ≤ 3 ∧ Below w.heap.size w wr) (fun _ iv _ => l.length - (intOf iv).toNat)
  case atStart => exact ⟨0, 0, Nat.zero_le _, rfl, rfl, rfl, by omega, Below.refl _ _⟩
  case round =>
    obtain ⟨i, a, hi, rfl, rfl, hacc, ha3, hb⟩ := hrel
    have HACC := Lib.hid hacc
    have HB := Lib.hid hb
    clear hacc
    rcases Nat.lt_or_ge i l.length with h1 | h1
    · have hii : (i : Int) < (l.length : Int) := by omega
      have hi1 : IntKind.i64.wrap ((i : Int) + 1) = ((i + 1 : Nat) : Int) := by rw [IntWalk.i64_in _ (by omega)]; omega
      cases LA with
      | none => rw [H2.out rfl] at h1; simp at h1
      | some ad =>
        obtain ⟨ha, hab, hcl⟩ := H3.out ad rfl
        obtain ⟨x, hx⟩ : ∃ x, l[i]? = some x := ⟨l[i], List.getElem?_eq_getElem h1⟩
        obtain ⟨hF1, Pv, hF2, hF3⟩ := hcl i x hx
        obtain ⟨fb, fo, rfl⟩ : ∃ fb fo, ad = ⟨fb, fo, none⟩ := ⟨_, _, ha⟩
        simp only at hF1 hF2 hab
        have y0 := (hb.cell (p := ⟨fb, fo + i * 2, none⟩) (by show fb < _; omega)).trans hF1
        have y1 := (hb.cell (p := ⟨fb, fo + i * 2 + 1, none⟩) (by show fb < _; omega)).trans hF2
        have hpr := HR.out x (List.mem_of_getElem? hx)
        have htk : l.take (i + 1) = l.take i ++ [x] := by
          rw [List.take_succ_eq_append_getElem h1]
          rw [List.getElem?_eq_getElem h1] at hx
          injection hx with hx
          rw [hx]
        have hac1 : accF (l.take (i + 1)) = stepL a (chkF x.p) := by rw [htk, accF_snoc, HACC.out]
        obtain ⟨PA, pc, rfl⟩ : ∃ PA pc, Pv = .slice PA x.p.length pc := by obtain ⟨A, c, h, _⟩ := hF3; exact ⟨A, c, h⟩
        obtain ⟨nm, pp⟩ := x
        simp only at hF1 hF2 hF3 y0 y1 hpr hac1
        have b4 := (Below.refl wr.heap.size wr).alloc (Nat.le_refl _) (.cells #[.string nm, .slice PA pp.length pc] 81)
        have b04 : Below w.heap.size w (wr.alloc (.cells #[.string nm, .slice PA pp.length pc] 81)) := hb.trans (b4.mono hb.size)
        have HC := Lib.hid (check_any (wr.alloc (.cells #[.string nm, .slice PA pp.length pc] 81)) B _ pp (hF3.below (b04.mono hB)) (Nat.le_trans hB b04.size) hpr)
        have HB4 := Lib.hid b04
        obtain ⟨r, hr0⟩ : ∃ r, chkF pp = r := ⟨_, rfl⟩
        have hr3 : r ≤ 3 := by rw [← hr0]; exact chkF_le pp
        rw [hr0] at hac1
        have HR0 := Lib.hid hr0
        have HAC := Lib.hid hac1
        clear hcl ha htk hx hF1 hF2 hF3 hb b4 b04 hr0 hac1
        go_wp2_with fail
        with_reducible refine HC.out.mono ?_
        rintro e w6 ⟨r', rfl, hcv, hof⟩
        obtain rfl : r' = r := by rw [chk_eq hcv]; exact HR0.out
        have HB6 : Hid (Below w.heap.size w w6) := Lib.hid (HB4.out.trans (hof.below HB4.out.size (by simp)))
        clear hof hcv
        rcases Nat.eq_zero_or_pos r' with z0 | z0
        · subst z0
          have hs : stepL a 0 = a := by unfold stepL; simp
          have HS := Lib.hid hs
          clear hs
          go_wp2
          go_roundw
          case rel => exact ⟨i + 1, a, by omega, rfl, rfl, by rw [HAC.out, HS.out], by omega, HB6.out⟩
          case measure => simp [intOf]; omega
        · have z1 : ((r' : Int) == 0) = false := by simp; omega
          have z2 : ((r' : Int) != 0) = true := by simp; omega
          have z3 : ¬ (r' : Int) = 0 := by omega
          rcases Nat.eq_zero_or_pos a with y | y
          · subst y
            have hs : stepL 0 r' = r' := by unfold stepL; rw [if_pos ⟨by omega, Or.inl rfl⟩]
            have HS := Lib.hid hs
            clear hs z3
            go_wp2
            go_roundw
            case rel => exact ⟨i + 1, r', by omega, rfl, rfl, by rw [HAC.out, HS.out], by omega, HB6.out⟩
            case measure => simp [intOf]; omega
          · have z4 : ((a : Int) == 0) = false := by simp; omega
            have z5 : ¬ (a : Int) = 0 := by omega
            rcases Nat.lt_or_ge r' a with g | g
            · have z6 : (r' : Int) < (a : Int) := by omega
              have hs : stepL a r' = r' := by unfold stepL; rw [if_pos ⟨by omega, Or.inr g⟩]
              have HS := Lib.hid hs
              clear hs z3 z5
              go_wp2
              go_roundw
              case rel => exact ⟨i + 1, r', by omega, rfl, rfl, by rw [HAC.out, HS.out], by omega, HB6.out⟩
              case measure => simp [intOf]; omega
            · have z6 : ¬ (r' : Int) < (a : Int) := by omega
              have hs : stepL a r' = a := by unfold stepL; rw [if_neg (by omega)]
              have HS := Lib.hid hs
              clear hs z3 z5
              go_wp2
              go_roundw
              case rel => exact ⟨i + 1, a, by omega, rfl, rfl, by rw [HAC.out, HS.out], by omega, HB6.out⟩
              case measure => simp [intOf]; omega
    · obtain rfl : i = l.length := by omega
      have hii : ¬ (l.length : Int) < (l.length : Int) := by omega
      have hq := HACC.out
      rw [List.take_length] at hq
      have he : a = R := by rw [← hq]; exact HV.out
      have HE := Lib.hid he
      clear hq he hb
      go_wp2
      go_ret
      exact ⟨by rw [HE.out] <;> rfl, HB.out⟩
theorem sclone_x (w : World) (s : ByteArray) (hl : s.size ≤ 281474976710656) :
    Calls Tryd.prog 41 #[.string s] w fun e w' => e = .returned (.string s) ∧ Below w.heap.size w w' := by
  have HC := Lib.hid (Tryd.stringslite_Clone s w hl)
  go_enter Tryd.func41, Tryd.ntmps41
  go_wp2_with fail
  with_reducible refine HC.out.mono ?_
  rintro e w' ⟨rfl, hb⟩
  have HB := Lib.hid hb
  clear hb
  go_wp2
  go_ret
  exact ⟨rfl, HB.out⟩
theorem Off.join {S T : List Nat} {w a b : World} (h : Off S w a) (k : Off T a b) (hT : ∀ y ∈ T, y ∈ S ∨ w.heap.size ≤ y) : Off S w b :=
  ⟨k.os.trans h.os, k.tape.trans h.tape, k.output.trans h.output, Nat.le_trans h.size k.size, fun i hi hn => (k.block i (Nat.lt_of_lt_of_le hi h.size) (fun e => by rcases hT i e with g | g; exact hn g; omega)).trans (h.block i hi hn)⟩
theorem mkP0 (w : World) (n : Nat) (hn : n ≤ 100) : (Instr.makeSlice 34 (.int .i64 0) (.int .i64 (n : Int))).run Tryd.prog w = .ok (.slice (some ⟨w.heap.size, 0, none⟩) 0 n) (w.alloc (.cells (List.replicate n (.slice none 0 0)).toArray 33)) := by
  obtain ⟨i0, hi, hz0, hz1, hz2⟩ := info_partsActs
  have h := run_make (P := Tryd.prog) w 34 33 i0 (.slice none 0 0) Tryd.underlying34 hi hz0 .i64 .i64 0 n (by omega) (by omega) (by rw [hz2]; omega) (by omega)
  rw [h]
  have e : madeCells (Value.slice none 0 0).cells ((n : Int).toNat * i0.size) = (List.replicate n (Value.slice none 0 0)).toArray := by
    rw [hz1, Nat.mul_one, Int.toNat_natCast]
    have := toList_madeCells_one (.slice none 0 0) n
    rw [← this]
    rfl
  rw [e]
  simp
theorem OwnS.roomN {w : World} {b B n : Nat} {x : Value} (h : BlkL w b (List.replicate n x)) (hB : B ≤ b) (hn : n ≤ 100) : OwnS w B 1 (some ⟨b, 0, none⟩) 0 n [] := by
  refine ⟨rfl, by omega, by unfold maxLen; omega, (fun e => by cases e), fun a ha => ?_⟩
  injection ha with ha
  subst ha
  refine ⟨rfl, hB, h.lt, fun j hj => ?_, fun j v hv => by simp at hv⟩
  have hj' : j < n := by omega
  exact ⟨by rw [Nat.zero_add, h.cell j x (by rw [List.getElem?_replicate]; simp [hj'])]; rfl, by rw [Nat.zero_add]; exact h.froz j (by simp; exact hj')⟩
theorem copied_any (w : World) (B : Nat) (nm : ByteArray) (Pv : Value) (p : List (List ActV)) (h : ProgQ w B Pv p) (hB : B ≤ w.heap.size) (hn : nm.size ≤ 140737488355328) (hp1 : p.length ≤ 32) (hp2 : ∀ f ∈ p, f.length ≤ 64) :
    Calls Tryd.prog 29 #[.agg #[.string nm, Pv]] w fun e w' => ∃ A c, e = .returned (.agg #[.string nm, .slice A p.length c]) ∧ ProgI w' w.heap.size w'.heap.size (.slice A p.length c) p ∧ Below w.heap.size w w' := by
  obtain ⟨iP, hiP, hP0, hP1, hP2⟩ := info_partsActs
  have hq0 := h
  obtain ⟨PA, pc, rfl, hPn, -⟩ := h
  have HPN := Lib.hid hPn
  have b1 := (Below.refl w.heap.size w).alloc (Nat.le_refl _) (.cells #[.string nm, .slice PA p.length pc] 81)
  have b2 := b1.alloc (by simp) (.cells #[.string ⟨#[]⟩, .slice none 0 0] 81)
  have b3 := b2.alloc (by simp <;> omega) (.cells (List.replicate p.length (.slice none 0 0)).toArray 33)
  have hp3 := hq0.below (b3.mono hB)
  have s1 : (w.alloc (.cells #[.string nm, .slice PA p.length pc] 81)).heap.size = w.heap.size + 1 := by simp
  have s2 : ((w.alloc (.cells #[.string nm, .slice PA p.length pc] 81)).alloc (.cells #[.string ⟨#[]⟩, .slice none 0 0] 81)).heap.size = w.heap.size + 1 + 1 := by simp
  have s3 : (((w.alloc (.cells #[.string nm, .slice PA p.length pc] 81)).alloc (.cells #[.string ⟨#[]⟩, .slice none 0 0] 81)).alloc (.cells (List.replicate p.length (.slice none 0 0)).toArray 33)).heap.size = w.heap.size + 3 := by simp
  have kb := ((BlkL.new w [.string nm, .slice PA p.length pc] 81).alloc (.cells #[.string ⟨#[]⟩, .slice none 0 0] 81)).alloc (.cells (List.replicate p.length (.slice none 0 0)).toArray 33)
  have kr := (BlkL.new (w.alloc (.cells #[.string nm, .slice PA p.length pc] 81)) [.string ⟨#[]⟩, .slice none 0 0] 81).alloc (.cells (List.replicate p.length (.slice none 0 0)).toArray 33)
  have km := BlkL.new ((w.alloc (.cells #[.string nm, .slice PA p.length pc] 81)).alloc (.cells #[.string ⟨#[]⟩, .slice none 0 0] 81)) (List.replicate p.length (.slice none 0 0)) 33
  rw [s1] at kr
  rw [s2] at km
  have HP2 := Lib.hid hp2
  clear b1 b2 hq0 hPn hp2
  go_enter Tryd.func29, Tryd.ntmps29
  go_wp2_with fail
  rw [mkP0 _ _ (by omega)]
  simp only [Result.andThen]
  rw [Oper.upon_value]
  rw [s2]
  clear s1 s2
  revert b3 hp3 s3 kb kr km
  generalize (((w.alloc (.cells #[.string nm, .slice PA p.length pc] 81)).alloc (.cells #[.string ⟨#[]⟩, .slice none 0 0] 81)).alloc (.cells (List.replicate p.length (.slice none 0 0)).toArray 33)) = w3
  intro b3 hp3 s3 kb kr km
  have HB3 := Lib.hid b3
  have HP := Lib.hid hp3
  have KB := Lib.hid kb
  have KR := Lib.hid kr
  have KM := Lib.hid km
  have bx1 := kb.cell 1 _ rfl
  have bx0 := kb.cell 0 _ rfl
  have bxl := kb.lt
  clear b3 hp3 kb kr km
  go_wp2_with fail
  go_loopw [3, 13] (fun lv iv wr => ∃ i : Nat, i ≤ p.length ∧ iv = .int .i64 (i : Int) ∧ ∃ A c Fs, lv = .slice A i c ∧ PrgN wr (w.heap.size + 1 + 1) A c Fs (p.take i) ∧ Off [w.heap.size + 1 + 1] w3 wr ∧ ∀ y ∈ bkV A, y = w.heap.size + 1 + 1 ∨ w3.heap.size ≤ y) (fun _ iv _ => p.length - (intOf iv).toNat)
  case atStart => exact ⟨0, Nat.zero_le _, rfl, some ⟨w.heap.size + 1 + 1, 0, none⟩, p.length, [], rfl, ⟨OwnS.roomN KM.out (Nat.le_refl _) (by omega), fun i f hf => by simp at hf⟩, Off.refl _ _, by simp [bkV]⟩
  case round =>
    obtain ⟨i, hi, rfl, A, c, Fs, rfl, hN, hof, hbk⟩ := hrel
    have HN := Lib.hid hN
    have HF := Lib.hid hof
    have HK := Lib.hid hbk
    have bw : Below w.heap.size w wr := HB3.out.trans (hof.below (by have := HB3.out.size; omega) (by simp; omega))
    have HBW := Lib.hid bw
    rcases Nat.lt_or_ge i p.length with h1 | h1
    · have hii : (i : Int) < (p.length : Int) := by omega
      have hi1 : IntKind.i64.wrap ((i : Int) + 1) = ((i + 1 : Nat) : Int) := by rw [IntWalk.i64_in _ (by omega)]; omega
      cases PA with
      | none => rw [HPN.out rfl] at h1; simp at h1
      | some a =>
        obtain ⟨A9, c9, he9, -, h39⟩ := HP.out
        injection he9 with g1 g2 g3
        subst g1
        obtain ⟨ha, hab, hcl⟩ := h39 a rfl
        obtain ⟨f, hf⟩ : ∃ f, p[i]? = some f := ⟨p[i], List.getElem?_eq_getElem h1⟩
        obtain ⟨F, hF1, hF2⟩ := hcl i f hf
        obtain ⟨fb, fo, rfl⟩ : ∃ fb fo, a = ⟨fb, fo, none⟩ := ⟨_, _, ha⟩
        simp only at hF1 hab
        have bo : Below w.heap.size w3 wr := hof.below (by have := HB3.out.size; omega) (by simp; omega)
        have hF1' := (bo.cell (p := ⟨fb, fo + i, none⟩) (by show fb < _; omega)).trans hF1
        have hF3 := hF2.below (bo.mono hB)
        have hfl := HP2.out f (List.mem_of_getElem? hf)
        have HC := Lib.hid (clone_any wr B F f hF3 (Nat.le_trans hB bw.size) hfl)
        obtain ⟨FA, fc, rfl, -, -⟩ := hF3
        have htk : p.take (i + 1) = p.take i ++ [f] := by
          rw [List.take_succ_eq_append_getElem h1]
          rw [List.getElem?_eq_getElem h1] at hf
          injection hf with hf
          rw [hf]
        have HTK := Lib.hid htk
        have hpl : (p.take i).length = i := by rw [List.length_take]; omega
        have HPL := Lib.hid hpl
        clear hcl h39 ha htk hf hF1 hF2 hN hof hbk bw bo hpl g2 g3
        go_wp2_with fail
        with_reducible refine HC.out.mono ?_
        rintro e w5 ⟨A2, c2, rfl, ho2, hb5⟩
        have hs5 := hb5.size
        have b6 := (Below.refl w5.heap.size w5).alloc (Nat.le_refl _) (.cells #[.slice A2 f.length c2] 33)
        have b56 := hb5.trans (b6.mono hb5.size)
        have HSRC := Lib.hid (srcOne1 w5 (.slice A2 f.length c2) rfl 33)
        have hN6 := HN.out.below b56
        have hO6 := hN6.1
        rw [HPL.out] at hO6
        have HO6 := Lib.hid hO6
        have HN6 := Lib.hid hN6
        have hact := ((ActI.of_own ho2).offF (Nat.le_refl _) (Off.of_below (S := []) b6) (by simp)).wide (lo' := w.heap.size + 1 + 1) (by have := HF.out.size; omega) b6.size
        have HACT := Lib.hid hact
        have hna : ∀ y ∈ bkF (.slice A2 f.length c2), y ∉ bkV A := by
          intro y hy hy2
          have h1 := (HN.out.1.lt y hy2).2
          have h2 := ((ActI.of_own ho2).blk y hy).1
          omega
        have HNA := Lib.hid hna
        have HB6 := Lib.hid b56
        have hbb : w.heap.size + 1 + 1 ≤ (w5.alloc (.cells #[.slice A2 f.length c2] 33)).heap.size := by have := HF.out.size; have := b56.size; omega
        clear ho2 hb5 b6 b56 hN6 hO6 hact hna
        go_wp2_with (refine wpList_append_s Tryd.underlying34 hiP hP0 hP1 hP2 rfl rfl (.tmp 17) (.tmp 20) rfl rfl HO6.out (some ⟨w5.heap.size, 0, none⟩) 1 1 _ rfl HSRC.out (fun e => by cases e) (by omega) (by omega) hbb ?_)
        intro A3 c3 w6 ho6 hf6 hbk6
        have hnew : PrgN w6 (w.heap.size + 1 + 1) A3 c3 (Fs ++ [.slice A2 f.length c2]) (p.take (i + 1)) := by
          rw [HTK.out]
          exact HN6.out.snoc HACT.out HNA.out (by rw [HPL.out]; exact ho6) hf6 (fun y hy => (hbk6 y hy).elim Or.inl (fun q => Or.inr (by rw [q.1]; simp)))
        have HNW := Lib.hid hnew
        have hoff : Off [w.heap.size + 1 + 1] w3 w6 := ((HF.out.trans ((Off.of_below HB6.out).mono (S := []) (by simp)))).join hf6 (fun y hy => (HK.out y hy).imp (fun e => by simp [e]) id)
        have HOF := Lib.hid hoff
        have hsz6 : w3.heap.size ≤ (w5.alloc (.cells #[.slice A2 f.length c2] 33)).heap.size := Nat.le_trans HF.out.size HB6.out.size
        have hsz7 : w3.heap.size ≤ w5.heap.size + 1 := by simpa using hsz6
        have hkk : ∀ y ∈ bkV A3, y = w.heap.size + 1 + 1 ∨ w3.heap.size ≤ y := fun y hy => (hbk6 y hy).elim (fun q => HK.out y q) (fun q => Or.inr (by have h3 := q.1; omega))
        have HKK := Lib.hid hkk
        clear ho6 hf6 hbk6 hnew hoff hkk hsz6 hsz7
        go_wp2
        go_roundw
        case rel => exact ⟨i + 1, by omega, rfl, A3, c3, _, rfl, HNW.out, HOF.out, HKK.out⟩
        case measure => simp [intOf]; omega
    · obtain rfl : i = p.length := by omega
      have hii : ¬ (p.length : Int) < (p.length : Int) := by omega
      have hq := hN
      rw [List.take_length] at hq
      have hpi := hq.prog
      have kb := KB.out.off hof (by simp <;> omega)
      have kr := KR.out.off hof (by simp <;> omega)
      have KRr := Lib.hid kr
      have z0 := kb.cell 0 _ rfl
      have HS := Lib.hid (sclone_x wr nm (by omega))
      have HPI := Lib.hid hpi
      have hnk : ∀ y ∈ bkV A, y ≠ w.heap.size + 1 := fun y hy => by rcases hbk y hy with e | e <;> omega
      clear hN hq hpi hof hbk kb kr bw
      go_wp2_with fail
      with_reducible refine HS.out.mono ?_
      rintro e w7 ⟨rfl, hb7⟩
      have HB7 := Lib.hid hb7
      have kr7 := KRr.out.below hb7
      have r0 := kr7.cell 0 _ rfl
      have r1 := kr7.cell 1 _ rfl
      have rf0 := kr7.froz 0 (by simp)
      have rf1 := kr7.froz 1 (by simp)
      have rl := kr7.lt
      have KF := Lib.hid ((kr7.set 0 (.string nm) (by simp)).set 1 (.slice A p.length c) (by simp))
      clear hb7 kr7
      go_wp2
      have o8 : Off [w.heap.size + 1] w7 ((w7.setCell ⟨w.heap.size + 1, 0, none⟩ (.string nm)).setCell ⟨w.heap.size + 1, 1, none⟩ (.slice A p.length c)) := ((Off.refl [w.heap.size + 1] w7).setCell (by simp) _).setCell (by simp) _
      refine bodyPost_ret (v := .agg #[.string nm, .slice A p.length c]) (results_copied _ _ (w.heap.size + 1) _ _ rfl KF.out) rfl ⟨A, c, rfl, ?_, ?_⟩
      · exact (((HPI.out.off (Nat.le_refl _) (Off.of_below (S := []) HB7.out) (by simp)).off HB7.out.size o8 (by intro y hy; left; simp at hy; omega)).wide (by omega) (Nat.le_trans HB7.out.size o8.size))
      · exact (HBW.out.trans (HB7.out.mono HBW.out.size)).trans (o8.below (by have := HBW.out.size; have := HB7.out.size; omega) (by simp))
end Go.Proofs.YtifldnkcheobhaaDoor
