/- The law PermScripts: its walk. -/
import Derived.Test.YtpeijhlheencnaaScrN
import Derived.Test.YtpeijhlheencnaaPermD
import Derived.Deep.RegionHeld3
import Derived.Deep.RegionWith
import Derived.Deep.CutRange
import Derived.Deep.AppendLies
import Derived.IntWalk
import Derived.Outline
namespace Go.Proofs.Ytpeijhlheencnaa
open Go.RowKit
set_option maxRecDepth 100000
set_option linter.unusedVariables false

theorem BlkL.keep2 {w w' : World} {b : Nat} {xs : List Value} (h : BlkL w b xs) (hb : Below (b + 1) w w') : BlkL w' b xs :=
  ⟨Nat.lt_of_lt_of_le h.lt hb.size, fun i u hi => (hb.cell (p := ⟨b, i, none⟩) (Nat.lt_succ_self _)).trans (h.cell i u hi), fun i hi => (hb.frozen (p := ⟨b, i, none⟩) (Nat.lt_succ_self _)).trans (h.froz i hi)⟩
structure ScrSt (w : World) (bs : Nat) (p : Int) (wr : World) (i : Nat) (rows : List SRow) (Bv : Option Addr) (cb : Nat) (Cv : Option Addr) (cc : Nat) (A : Option Addr) (n c : Nat) (H : Option Addr) (hc : Nat) (xs : List Int) : Prop where
  len : rows.length = i
  own1 : OwnC wr (bs + 1) 52 2 Bv i cb (RC p rows)
  own2 : OwnC wr (bs + 1) 3 1 Cv i cc (CC rows)
  rows_ : RowsOk bs wr (ob Bv) (ob Cv) p rows
  s : Lst bs wr (ob Bv) (ob Cv) A n c xs
  shp : Shp A c
  ok : semB p xs = true
  h : Lst bs wr (ob Bv) (ob Cv) H n hc xs
  ne : ∀ b, ob Bv = some b → ob Cv ≠ some b
  blk : BlkL wr bs [.int .i64 p, .slice A n c]
  bel : Below w.heap.size w wr
  le : bs + 1 ≤ wr.heap.size
  lo : w.heap.size ≤ bs
theorem Lst.mid {z : Nat} {wr W : World} {o1 o2 : Option Nat} {base k1 k2 : Nat} {T1 T2 : TypeId} {B C A : Option Addr} {nb cb nc cc n c : Nat} {b' c' : List Value} {xs : List Int} (h : Lst z wr o1 o2 A n c xs) (hM : Mid wr o1 o2 base T1 T2 k1 k2 W B nb cb b' C nc cc c') : Lst z W (ob B) (ob C) A n c xs := by
  have hlt : 0 < n → ∀ a, A = some a → a.block < wr.heap.size := by
    intro hn a e
    obtain ⟨b, off, e2, hb, _⟩ := h.arg.at_ hn
    rw [e] at e2; injection e2 with e2; subst e2; exact hb
  refine ⟨⟨h.arg.len, h.arg.le, h.arg.cap, h.arg.none_, fun hn => ?_⟩, ?_, ?_, h.a3⟩
  · obtain ⟨b, off, e, hb, hc⟩ := h.arg.at_ hn
    refine ⟨b, off, e, Nat.lt_of_lt_of_le hb hM.size, fun k hk => ?_⟩
    rw [← hc k hk]
    exact World.cell?_of_block (w := wr) (hM.stay b hb (h.a1 hn _ e) (h.a2 hn _ e))
  · intro hn a e
    rcases hM.mv1 with e1 | ⟨b, e1, hb⟩
    · rw [e1]; exact h.a1 hn a e
    · rw [e1]; intro he; injection he with he
      have := hlt hn a e; omega
  · intro hn a e
    rcases hM.mv2 with e1 | ⟨b, e1, hb⟩
    · rw [e1]; exact h.a2 hn a e
    · rw [e1]; intro he; injection he with he
      have := hlt hn a e; omega
theorem ScrSt.mid0 {w wr : World} {bs i cb cc n c hc : Nat} {p : Int} {rows : List SRow} {Bv Cv A H : Option Addr} {xs : List Int} (st : ScrSt w bs p wr i rows Bv cb Cv cc A n c H hc xs) :
    Mid wr (ob Bv) (ob Cv) (bs + 1) 52 3 2 1 wr Bv i cb (RC p rows) Cv i cc (CC rows) :=
  ⟨st.own1, st.own2, fun _ _ _ _ => rfl, st.ne, .inl rfl, .inl rfl, Below.refl _ _, Nat.le_refl _, st.le⟩
theorem ScrSt.next {w wr W : World} {bs i cb cc n c hc cb' cc' : Nat} {p : Int} {rows : List SRow} {Bv Cv A H B' C' : Option Addr} {xs : List Int} (st : ScrSt w bs p wr i rows Bv cb Cv cc A n c H hc xs)
    (hM : Mid wr (ob Bv) (ob Cv) (bs + 1) 52 3 2 1 W B' (i + 1) cb' (RC p rows ++ [.int .i64 p, .slice A n c]) C' (i + 1) cc' (CC rows ++ [.int .i64 (n : Int)])) :
    ScrSt w bs p W (i + 1) (rows ++ [⟨A, n, c, xs⟩]) B' cb' C' cc' A n c H hc xs :=
  ⟨by rw [List.length_append, st.len]; rfl, by rw [RC_snoc]; exact hM.own1, by rw [CC_snoc]; exact hM.own2,
   fun r hr => by
    rcases List.mem_append.1 hr with h3 | h3
    · exact ⟨(st.rows_ r h3).1.mid hM, (st.rows_ r h3).2⟩
    · simp only [List.mem_singleton] at h3
      subst h3; exact ⟨st.s.mid hM, st.ok⟩,
   st.s.mid hM, st.shp, st.ok, st.h.mid hM, hM.ne, st.blk.keep2 hM.bel, st.bel.trans (hM.bel.mono (Nat.le_trans st.lo (Nat.le_succ _))), Nat.le_trans st.le hM.size, st.lo⟩
theorem drop_okL : ∀ {xs : List Int} {last : Int}, okList last xs = true → ∀ t, okList last (dropV xs t) = true
  | [], _, _, _ => rfl
  | x :: l, last, h, t => by
    obtain ⟨h1, h2, h3, h4⟩ := okList_cons.1 h
    have ih := drop_okL h4 t
    by_cases e : x = t
    · have e2 : dropV (x :: l) t = dropV l t := by simp [dropV, e]
      rw [e2]
      exact okList_weak (by omega) ih
    · have e2 : dropV (x :: l) t = x :: dropV l t := by simp [dropV, e]
      rw [e2]
      exact okList_cons.2 ⟨h1, h2, h3, ih⟩
theorem sem_drop {p : Int} {xs : List Int} (h : semB p xs = true) (t : Int) : semB p (dropV xs t) = true := by
  obtain ⟨h1, h2, h3, h4⟩ := semB_iff.1 h
  have := drop_len xs t
  exact semB_iff.2 ⟨h1, h2, by omega, drop_okL h4 t⟩
theorem give_none {w : World} {A : Option Addr} {n c B : Nat} {xs : List Int} {p t : Int} (h : ArgI w B A n c xs) (hB : B ≤ w.heap.size) (h3 : semB p xs = true) (h4 : hasV xs t = false) :
    Calls Try.prog 19 #[.agg #[.int .i64 p, .slice A n c], .int .i64 t] w (ValEnd w (.tuple #[.agg #[.int .i64 0, .slice none 0 0], .int .i64 11])) := by
  have HC := check_at (p := p) h hB
  have hl := h.len
  rw [semV_ok h3] at HC
  have hf := semB_iff.1 h3
  have HX := search_at (t := t) h hB hf.2.2.2 (by omega)
  rw [h4] at HX
  exact give_tok w A n c p t _ (Lib.hid HC) (Lib.hid HX)
theorem ScrSt.below {w wr w' : World} {bs i cb cc n c hc : Nat} {p : Int} {rows : List SRow} {Bv Cv A H : Option Addr} {xs : List Int} (st : ScrSt w bs p wr i rows Bv cb Cv cc A n c H hc xs) (hb : Below wr.heap.size wr w') : ScrSt w bs p w' i rows Bv cb Cv cc A n c H hc xs :=
  ⟨st.len, st.own1.below hb, st.own2.below hb, st.rows_.below hb, st.s.below hb, st.shp, st.ok, st.h.below hb, st.ne, st.blk.below hb, st.bel.trans (hb.mono st.bel.size), Nat.le_trans st.le hb.size, st.lo⟩
theorem ScrSt.alloc {w wr : World} {bs i cb cc n c hc : Nat} {p : Int} {rows : List SRow} {Bv Cv A H : Option Addr} {xs : List Int} (st : ScrSt w bs p wr i rows Bv cb Cv cc A n c H hc xs) (o : Obj) : ScrSt w bs p (wr.alloc o) i rows Bv cb Cv cc A n c H hc xs :=
  st.below ((Below.refl _ _).alloc (Nat.le_refl _) o)
theorem OwnC.base {W : World} {base k n c : Nat} {T : TypeId} {A : Option Addr} {cs : List Value} (h : OwnC W base T k A n c cs) : ∀ b, ob A = some b → base ≤ b := by
  intro b hb
  rcases h.2 with ⟨h1, h2⟩ | ⟨g, cap, cur, h1, h2, _⟩
  · simp only [Value.slice.injEq] at h1
    rw [h1.1] at hb; cases hb
  · simp only [Value.slice.injEq] at h1
    rw [h1.1] at hb
    injection hb with hb
    subst hb; exact h2
theorem stay_put (w : World) (b : Nat) (u v : Value) : Stay w ((w.setCell ⟨b, 0, none⟩ u).setCell ⟨b, 1, none⟩ v) (some b) :=
  ⟨by simp, fun k hk hne => by
    have e : k ≠ b := fun e => hne (by rw [e])
    exact (Below.heap_setCell _ ⟨b, 1, none⟩ v k e).trans (Below.heap_setCell _ ⟨b, 0, none⟩ u k e)⟩
theorem ScrSt.swap {w wr : World} {bs i cb cc n c hc n' c' hc' : Nat} {p : Int} {rows : List SRow} {Bv Cv A H A' H' : Option Addr} {xs ys : List Int} (st : ScrSt w bs p wr i rows Bv cb Cv cc A n c H hc xs)
    (hA : Lst bs wr (ob Bv) (ob Cv) A' n' c' ys) (hs : Shp A' c') (hok : semB p ys = true) (hH : Lst bs wr (ob Bv) (ob Cv) H' n' hc' ys) :
    ScrSt w bs p ((wr.setCell ⟨bs, 0, none⟩ (.int .i64 p)).setCell ⟨bs, 1, none⟩ (.slice A' n' c')) i rows Bv cb Cv cc A' n' c' H' hc' ys :=
  ⟨st.len, st.own1.stay (stay_put _ _ _ _) (fun b hb e => by injection e with e; have := st.own1.base b hb; omega), st.own2.stay (stay_put _ _ _ _) (fun b hb e => by injection e with e; have := st.own2.base b hb; omega),
   (st.rows_.put 0 _).put 1 _, (hA.put 0 _).put 1 _, hs, hok, (hH.put 0 _).put 1 _, st.ne, st.blk.put2 _ _, below_put2 st.bel st.lo _ _, by simpa using st.le, st.lo⟩
def ScrInv (w : World) (bs : Nat) (p : Int) (m : Nat) (bv cv hv iv : Value) (wr : World) : Prop :=
  ∃ (i : Nat) (rows : List SRow) (Bv : Option Addr) (cb : Nat) (Cv : Option Addr) (cc : Nat) (A : Option Addr) (n c : Nat) (H : Option Addr) (hc : Nat) (xs : List Int), i ≤ m ∧ iv = .int .i64 (i : Int) ∧ bv = .slice Bv i cb ∧ cv = .slice Cv i cc ∧ hv = .slice H n hc ∧ ScrSt w bs p wr i rows Bv cb Cv cc A n c H hc xs

set_option maxHeartbeats 20000000 in
theorem permScripts_good (p : Int) (A : Option Addr) (n c : Nat) (xs : List Int) (w : World) (h : ArgI w w.heap.size A n c xs) (hp : 1 ≤ p) (hp2 : p ≤ 64) (hbx : ∀ v ∈ xs, -9223372036854775808 ≤ v ∧ v ≤ 9223372036854775807)
    (HAW : Hid (∀ w, Calls Try.prog 15 #[] w (ValEnd w (.bool true))))
    (HNW : Hid (∀ w, Calls Try.prog 16 #[.int .i64 p] w (ValEnd w (.tuple #[.agg #[.int .i64 p, .slice none 0 0], .int .i64 0])))) :
    Calls Try.prog 5 #[.int .i64 p, .slice A n c] w (ValEnd w (.bool true)) := by
  obtain ⟨m, hm⟩ : ∃ m, m = min n 150 := ⟨_, rfl⟩
  have hmn : m ≤ n := by omega
  have hm2 : m ≤ 150 := by omega
  have hmin : (if (n : Int) ≤ 150 then (n : Int) else 150) = (m : Int) := by split <;> omega
  have hmin2 : (if (n : Int) < 150 then (n : Int) else 150) = (m : Int) := by split <;> omega
  have hmin3 : (if (150 : Int) < (n : Int) then 150 else (n : Int)) = (m : Int) := by split <;> omega
  have HM := Lib.hid hm
  have hle := h.le
  have hcap := h.cap
  unfold maxLen at hcap
  have HTO := Lib.hid (h.to_ hmn)
  clear h hm
  go_enter Try.func5, Try.ntmps5
  go_wp2_with fail
  with_reducible refine (HAW.out _).mono ?_
  rintro e w1 ⟨rfl, hb⟩
  have HB1 := Lib.hid hb
  clear hb
  go_wp2_with fail
  with_reducible refine (HNW.out _).mono ?_
  rintro e w2 ⟨rfl, hb⟩
  have hz1 := HB1.out.size
  have HB2 := Lib.hid (HB1.out.trans (hb.mono hz1))
  have hz2 := HB2.out.size
  clear hb
  go_wp2
  go_loopw [7, 8, 9, 48] (fun bv cv hv iv wr => ScrInv w w2.heap.size p m bv cv hv iv wr) (fun _ _ _ iv _ => m - (intOf iv).toNat)
  case atStart =>
    refine ⟨0, [], none, 0, none, 0, none, 0, 0, none, 0, [], Nat.zero_le _, rfl, rfl, rfl, rfl, ⟨rfl, OwnC.nil _ _ _ _, OwnC.nil _ _ _ _, (fun r hr => by cases hr), Lst.nil _ _ _ _, .inl ⟨rfl, rfl⟩, ?_, Lst.nil _ _ _ _, (fun b hb => by cases hb), BlkL.new w2 [.int .i64 p, .slice none 0 0] _, HB2.out.alloc hz2 _, by simp, hz2⟩⟩
    exact semB_iff.2 ⟨hp, hp2, by have : (0 : Int) ≤ p := by omega
                                  simpa using this, rfl⟩
  case round =>
    obtain ⟨i, rows, Bv, cb, Cv, cc, A2, n2, c2, H, hc, ys, hi, rfl, rfl, rfl, rfl, st⟩ := hrel
    have hsz := st.bel.size
    have ST := Lib.hid st
    rcases Nat.lt_or_ge i m with h1 | h1
    · have HA := Lib.hid (HTO.out.below st.bel)
      obtain ⟨b1, o1, e1, hlt1, hc1⟩ := HA.out.at_ (by omega)
      have q0 := hc1 i h1
      subst e1
      have hx := hbx ((xs.take m).getD i 0) (by
        have hl : i < (xs.take m).length := by rw [HA.out.len]; exact h1
        rw [List.getD_eq_getElem?_getD, List.getElem?_eq_getElem hl]
        exact List.mem_of_mem_take (List.getElem_mem hl))
      generalize (xs.take m).getD i 0 = x at q0 hx
      have j0 : (0 : Int) ≤ (i : Int) := by omega
      have j1 : (i : Int) < (m : Int) := by omega
      have j2 : ¬ m ≤ i := by omega
      have s0 := st.blk.cell 0 _ rfl
      have s1 := st.blk.cell 1 _ rfl
      have sl := st.blk.lt
      clear hc1 st
      go_wp2
      have MB := ST.out.mid0
      go_cut [7, 8, 48] from 48 to 158 (fun bv cv iv wx => ∃ (B' : Option Addr) (cb' : Nat) (C' : Option Addr) (cc' : Nat), bv = .slice B' (i + 1) cb' ∧ cv = .slice C' (i + 1) cc' ∧ iv = .int .i64 (i : Int) ∧ ScrSt w w2.heap.size p wx (i + 1) (rows ++ [⟨A2, n2, c2, ys⟩]) B' cb' C' cc' A2 n2 c2 H hc ys)
      case first =>
        go_region_held3 (fun w' => w'.cell? ⟨w2.heap.size, 0, none⟩ = some (.int .i64 p) ∧ w'.cell? ⟨w2.heap.size, 1, none⟩ = some (.slice A2 n2 c2))
          (first | go_keep | exact ⟨(M3.bel.cell (p := ⟨w2.heap.size, 0, none⟩) (Nat.lt_succ_self _)).trans s0, (M3.bel.cell (p := ⟨w2.heap.size, 1, none⟩) (Nat.lt_succ_self _)).trans s1⟩ | exact ⟨(M4.bel.cell (p := ⟨w2.heap.size, 0, none⟩) (Nat.lt_succ_self _)).trans s0, (M4.bel.cell (p := ⟨w2.heap.size, 1, none⟩) (Nat.lt_succ_self _)).trans s1⟩)
          (first
            | ((refine step_one1 (wr := wr) (o1 := ob Bv) (o2 := ob Cv) (base := w2.heap.size + 1) (T1 := 52) (T2 := 3) (k1 := 2) (k2 := 1) (B := Bv) (nb := i) (cb := cb) (bs := RC p rows) (by rfl) _ _ 55 (by rfl) (by rfl) _ 1 (by rfl) (by first | with_reducible exact (MB.alloc _).drew | with_reducible exact ((MB.alloc _).alloc _).drew) [.int .i64 p, .slice A2 n2 c2] (by first | with_reducible exact (El.at_ _ _ MB.own2.inn rfl).drew | with_reducible exact ((El.at_ _ _ MB.own2.inn rfl).alloc _).drew | with_reducible exact (El.at_ _ _ (MB.alloc _).own2.inn (by simp)).drew) _ 32 Try.underlying55 psema_info rfl (by omega) rfl (by simp [Value.oneCell']) (by unfold maxLen; omega) (by omega) ?_); intro B3 c3 W3 M3 E3)
            | ((refine step_one2 (wr := wr) (o1 := ob Bv) (o2 := ob Cv) (base := w2.heap.size + 1) (T1 := 52) (T2 := 3) (k1 := 2) (k2 := 1) (C := Cv) (nc := i) (cc := cc) (cs := CC rows) (by rfl) _ _ 56 (by rfl) (by rfl) _ 1 (by rfl) (by first | with_reducible exact M3 | with_reducible exact M3.alloc _) [.int .i64 (n2 : Int)] (by first | with_reducible exact El.at_ _ _ M3.own1.inn rfl | with_reducible exact E3 _ _ (El.at_ _ _ (MB.alloc _).own1.inn (by simp)).drew | with_reducible exact E3 _ _ ((El.at_ _ _ MB.own1.inn rfl).alloc _).drew) _ 8 Try.underlying56 int_info rfl (by omega) rfl (by simp [Value.oneCell']) (by unfold maxLen; omega) (by omega) ?_); intro C4 c4 W4 M4 E4))
        all_goals (go_wp2_with fail)
        all_goals go_meet
        all_goals first | exact ⟨_, _, _, _, rfl, rfl, rfl, ST.out.next M4⟩
      case rest =>
        obtain ⟨B', cb', C', cc', rfl, rfl, rfl, st2⟩ := hcut
        have ST2 := Lib.hid st2
        have s0 := st2.blk.cell 0 _ rfl
        have s1 := st2.blk.cell 1 _ rfl
        have sl := st2.blk.lt
        have hok : semV p ys = 0 := semV_ok st2.ok
        have HF := Lib.hid (permFree_any wc wc.heap.size A2 n2 c2 ys p st2.s.arg (Nat.le_refl _))
        rw [hok, if_pos st2.ok] at HF
        have hnp : (n2 : Int) ≤ p := by have := (semB_iff.1 st2.ok).2.2.1; rw [st2.s.arg.len] at this; exact this
        have hfp : ((p - (n2 : Int)) != (p - (n2 : Int))) = false := by simp
        clear st2 MB
        rcases Int.lt_or_le x 0 with hx0 | hx0
        · have HH := Lib.hid (refHas_any wc wc.heap.size H n2 hc ys (-(x + 1)) ST2.out.h.arg)
          go_wp2_with fail
          with_reducible refine HH.out.mono ?_
          rintro e w5 ⟨rfl, rfl⟩
          generalize -(x + 1) = t
          go_wp2_with fail
          with_reducible refine HF.out.mono ?_
          rintro e w6 ⟨rfl, hb⟩
          have st6 := ST2.out.below hb
          have r0 := st6.blk.cell 0 _ rfl
          have r1 := st6.blk.cell 1 _ rfl
          have rl := st6.blk.lt
          clear hb s0 s1 sl HF HH
          have ST6 := Lib.hid st6
          rcases hG : hasV ys t with _ | _
          · have HG := Lib.hid (give_none (t := t) st6.s.arg (Nat.le_refl _) st6.ok hG)
            clear st6
            go_wp2_with fail
            with_reducible refine HG.out.mono ?_
            rintro e w7 ⟨rfl, hb⟩
            have ST7 := Lib.hid (ST6.out.below hb)
            clear hb r0 r1 rl
            go_wp2
            go_roundw
            case rel => exact ⟨i + 1, _, _, _, _, _, _, _, _, _, _, _, by omega, by go_num, rfl, rfl, rfl, ST7.out.alloc _⟩
            case measure => simp [intOf]; omega
          · have HG := Lib.hid (give_good (t := t) st6.s.arg (Nat.le_refl _) st6.shp st6.ok hG)
            have hok2 := sem_drop st6.ok t
            have hle1 := st6.le
            clear st6
            go_wp2_with fail
            with_reducible refine HG.out.mono ?_
            rintro e w7 ⟨A3, c3, rfl, hown, hb⟩
            have hlen := hown.len
            have st7 := (ST6.out.below hb).alloc (.cells #[.int .i64 p, .slice A3 (n2 - 1) c3] 52)
            have k8 := BlkL.new w7 [.int .i64 p, .slice A3 (n2 - 1) c3] 52
            have hl7 : Lst w2.heap.size w7 (ob B') (ob C') A3 (n2 - 1) c3 (dropV ys t) := Lst.new hown ST6.out.own1.inn ST6.out.own2.inn (by omega)
            have hl8 := hl7.below ((Below.refl _ _).alloc (Nat.le_refl _) (.cells #[.int .i64 p, .slice A3 (n2 - 1) c3] 52))
            have HS3 := Lib.hid hown.shp
            have st8 := st7.below (Below.refl _ _).drew
            have HL8 := Lib.hid (hl8.drewN 1)
            have K8 := Lib.hid k8.drew
            have HDR := Lib.hid (refDrop_any (w7.alloc (.cells #[.int .i64 p, .slice A3 (n2 - 1) c3] 52)).drew _ H n2 hc ys t st8.h.arg (Nat.le_refl _) (by omega))
            rw [hlen] at HDR
            have ST8 := Lib.hid st8
            clear hb r0 r1 rl
            have r0 := st7.blk.cell 0 _ rfl
            have r1 := st7.blk.cell 1 _ rfl
            have f0 := st7.blk.froz 0 (by simp)
            have f1 := st7.blk.froz 1 (by simp)
            have rl := st7.blk.lt
            have d0 := k8.cell 0 _ rfl
            have d1 := k8.cell 1 _ rfl
            have dl := k8.lt
            clear st7 st8 hl7 hl8 k8 hown
            go_wp2_with fail
            go_region_with
              (first
                | ((with_reducible refine HDR.out.mono ?_); rintro e w9 ⟨H3, c4, rfl, ho3, hb9⟩; have st9 := ST8.out.below hb9; have k9 := K8.out.below hb9; have c0 := k9.cell 0 _ rfl; have c1 := k9.cell 1 _ rfl; have g0 := st9.blk.cell 0 _ rfl; have g1 := st9.blk.cell 1 _ rfl; have g2 := st9.blk.froz 0 (by simp); have g3 := st9.blk.froz 1 (by simp); have HO3 := Lib.hid ho3; have HB9 := Lib.hid hb9; clear ho3 hb9 k9))
            · go_wp2
              go_roundw
              case rel => exact ⟨i + 1, _, _, _, _, _, _, _, _, _, _, _, by omega, by go_num, rfl, rfl, rfl, st9.swap (HL8.out.below HB9.out) HS3.out hok2 (Lst.new HO3.out ST8.out.own1.inn ST8.out.own2.inn ST8.out.le)⟩
              case measure => simp [intOf]; omega
            · go_wp2
              go_roundw
              case rel => exact ⟨i + 1, _, _, _, _, _, _, _, _, _, _, _, by omega, by go_num, rfl, rfl, rfl, st9.swap (HL8.out.below HB9.out) HS3.out hok2 (Lst.new HO3.out ST8.out.own1.inn ST8.out.own2.inn ST8.out.le)⟩
              case measure => simp [intOf]; omega
        · have HH := Lib.hid (refHas_any wc wc.heap.size H n2 hc ys x ST2.out.h.arg)
          go_wp2_with fail
          with_reducible refine HH.out.mono ?_
          rintro e w5 ⟨rfl, rfl⟩
          go_wp2_with fail
          with_reducible refine HF.out.mono ?_
          rintro e w6 ⟨rfl, hb⟩
          have st6 := ST2.out.below hb
          have r0 := st6.blk.cell 0 _ rfl
          have r1 := st6.blk.cell 1 _ rfl
          have rl := st6.blk.lt
          clear hb s0 s1 sl HF HH
          have ST6 := Lib.hid st6

          have hfb : (hasV ys x != hasV ys x) = false := by simp
          rcases Int.lt_or_le x 1 with hz | hz1
          · have HTE : takeE p ys x = 1 := by unfold takeE; rw [if_pos (.inl hz)]
            have HNZ : takeE p ys x ≠ 0 := by rw [HTE]; omega
            have HT := Lib.hid (take_bad (p := p) (t := x) st6.s.arg (Nat.le_refl _) HNZ)
            rw [HTE] at HT
            clear st6
            go_wp2_with fail
            with_reducible refine HT.out.mono ?_
            rintro e w7 ⟨rfl, hb⟩
            have st7 := (ST6.out.below hb).alloc (.cells #[.int .i64 0, .slice none 0 0] 52)
            have ST7 := Lib.hid st7
            clear hb r0 r1 rl
            have r0 := st7.blk.cell 0 _ rfl
            have r1 := st7.blk.cell 1 _ rfl
            have rl := st7.blk.lt
            have HP := Lib.hid (permHas_any (w7.alloc (.cells #[.int .i64 0, .slice none 0 0] 52)) _ A2 n2 c2 ys p x st7.s.arg (Nat.le_refl _))
            rw [hok, st7.ok, Bool.true_and] at HP
            skip
            clear st7
            go_wp2_with fail
            with_reducible refine HP.out.mono ?_
            rintro e w8 ⟨rfl, hb⟩
            have st8 := ST7.out.below hb
            have HQ := Lib.hid (refHas_any w8 _ H n2 hc ys x st8.h.arg)
            skip
            have ST8 := Lib.hid st8
            clear hb st8 r0 r1 rl
            go_wp2_with fail
            with_reducible refine HQ.out.mono ?_
            rintro e w9 ⟨rfl, rfl⟩
            go_wp2
            go_roundw
            case rel => exact ⟨i + 1, _, _, _, _, _, _, _, _, _, _, _, by omega, by go_num, rfl, rfl, rfl, ST8.out⟩
            case measure => simp [intOf]; omega
          · have hz : ¬ x < 1 := by omega
            rcases Int.lt_or_le 4611686018427387903 x with hz2 | hz3
            · have HTE : takeE p ys x = 1 := by unfold takeE; rw [if_pos (.inr hz2)]
              have HNZ : takeE p ys x ≠ 0 := by rw [HTE]; omega
              have HT := Lib.hid (take_bad (p := p) (t := x) st6.s.arg (Nat.le_refl _) HNZ)
              rw [HTE] at HT
              clear st6
              go_wp2_with fail
              with_reducible refine HT.out.mono ?_
              rintro e w7 ⟨rfl, hb⟩
              have st7 := (ST6.out.below hb).alloc (.cells #[.int .i64 0, .slice none 0 0] 52)
              have ST7 := Lib.hid st7
              clear hb r0 r1 rl
              have r0 := st7.blk.cell 0 _ rfl
              have r1 := st7.blk.cell 1 _ rfl
              have rl := st7.blk.lt
              have HP := Lib.hid (permHas_any (w7.alloc (.cells #[.int .i64 0, .slice none 0 0] 52)) _ A2 n2 c2 ys p x st7.s.arg (Nat.le_refl _))
              rw [hok, st7.ok, Bool.true_and] at HP
              skip
              clear st7
              go_wp2_with fail
              with_reducible refine HP.out.mono ?_
              rintro e w8 ⟨rfl, hb⟩
              have st8 := ST7.out.below hb
              have HQ := Lib.hid (refHas_any w8 _ H n2 hc ys x st8.h.arg)
              skip
              have ST8 := Lib.hid st8
              clear hb st8 r0 r1 rl
              go_wp2_with fail
              with_reducible refine HQ.out.mono ?_
              rintro e w9 ⟨rfl, rfl⟩
              go_wp2
              go_roundw
              case rel => exact ⟨i + 1, _, _, _, _, _, _, _, _, _, _, _, by omega, by go_num, rfl, rfl, rfl, ST8.out⟩
              case measure => simp [intOf]; omega
            · have hz2 : ¬ 4611686018427387903 < x := by omega
              rcases hG : hasV ys x with _ | _
              · by_cases hq : (n2 : Int) = p
                · have HTE : takeE p ys x = 9 := by unfold takeE; rw [if_neg (by omega), if_neg (by rw [ST6.out.ok]; simp), hG, if_neg (by simp), if_pos (by rw [ST6.out.s.arg.len]; exact hq)]
                  have HNZ : takeE p ys x ≠ 0 := by rw [HTE]; omega
                  have HT := Lib.hid (take_bad (p := p) (t := x) st6.s.arg (Nat.le_refl _) HNZ)
                  rw [HTE] at HT
                  clear st6
                  go_wp2_with fail
                  with_reducible refine HT.out.mono ?_
                  rintro e w7 ⟨rfl, hb⟩
                  have st7 := (ST6.out.below hb).alloc (.cells #[.int .i64 0, .slice none 0 0] 52)
                  have ST7 := Lib.hid st7
                  clear hb r0 r1 rl
                  have r0 := st7.blk.cell 0 _ rfl
                  have r1 := st7.blk.cell 1 _ rfl
                  have rl := st7.blk.lt
                  have HP := Lib.hid (permHas_any (w7.alloc (.cells #[.int .i64 0, .slice none 0 0] 52)) _ A2 n2 c2 ys p x st7.s.arg (Nat.le_refl _))
                  rw [hok, st7.ok, Bool.true_and] at HP
                  rw [hG] at HP
                  clear st7
                  go_wp2_with fail
                  with_reducible refine HP.out.mono ?_
                  rintro e w8 ⟨rfl, hb⟩
                  have st8 := ST7.out.below hb
                  have HQ := Lib.hid (refHas_any w8 _ H n2 hc ys x st8.h.arg)
                  rw [hG] at HQ
                  have ST8 := Lib.hid st8
                  clear hb st8 r0 r1 rl
                  go_wp2_with fail
                  with_reducible refine HQ.out.mono ?_
                  rintro e w9 ⟨rfl, rfl⟩
                  go_wp2
                  go_roundw
                  case rel => exact ⟨i + 1, _, _, _, _, _, _, _, _, _, _, _, by omega, by go_num, rfl, rfl, rfl, ST8.out⟩
                  case measure => simp [intOf]; omega
                · have HTE : takeE p ys x = 0 := takeE_zero.2 ⟨by omega, by omega, ST6.out.ok, hG, by rw [ST6.out.s.arg.len]; exact hq⟩
                  have hfc : (hasV (putV ys x) x != hasV (putV ys x) x) = false := by simp
                  have HT := Lib.hid (take_good (p := p) (t := x) st6.s.arg (Nat.le_refl _) st6.shp HTE)
                  have hok2 := sem_put HTE
                  have hle1 := st6.le
                  clear st6
                  go_wp2_with fail
                  with_reducible refine HT.out.mono ?_
                  rintro e w7 ⟨A3, c3, rfl, hown, hb⟩
                  have hlen := hown.len
                  have st7 := (ST6.out.below hb).alloc (.cells #[.int .i64 p, .slice A3 (n2 + 1) c3] 52)
                  have k8 := BlkL.new w7 [.int .i64 p, .slice A3 (n2 + 1) c3] 52
                  have hl7 : Lst w2.heap.size w7 (ob B') (ob C') A3 (n2 + 1) c3 (putV ys x) := Lst.new hown ST6.out.own1.inn ST6.out.own2.inn (by omega)
                  have hl8 := hl7.below ((Below.refl _ _).alloc (Nat.le_refl _) (.cells #[.int .i64 p, .slice A3 (n2 + 1) c3] 52))
                  have HS3 := Lib.hid hown.shp
                  have st8 := st7.below (Below.refl _ _).drew
                  have HL8 := Lib.hid (hl8.drewN 1)
                  have K8 := Lib.hid k8.drew
                  have HDR := Lib.hid (refPut_any (w7.alloc (.cells #[.int .i64 p, .slice A3 (n2 + 1) c3] 52)).drew _ H n2 hc ys x st8.h.arg (Nat.le_refl _) (by omega))
                  have ST8 := Lib.hid st8
                  clear hb r0 r1 rl
                  have r0 := st7.blk.cell 0 _ rfl
                  have r1 := st7.blk.cell 1 _ rfl
                  have f0 := st7.blk.froz 0 (by simp)
                  have f1 := st7.blk.froz 1 (by simp)
                  have rl := st7.blk.lt
                  have d0 := k8.cell 0 _ rfl
                  have d1 := k8.cell 1 _ rfl
                  have dl := k8.lt
                  clear st7 st8 hl7 hl8 k8 hown
                  go_wp2_with fail
                  go_region_with
                    (first
                      | ((with_reducible refine HDR.out.mono ?_); rintro e w9 ⟨H3, c4, rfl, ho3, hb9⟩; have st9 := ST8.out.below hb9; have k9 := K8.out.below hb9; have c0 := k9.cell 0 _ rfl; have c1 := k9.cell 1 _ rfl; have g0 := st9.blk.cell 0 _ rfl; have g1 := st9.blk.cell 1 _ rfl; have g2 := st9.blk.froz 0 (by simp); have g3 := st9.blk.froz 1 (by simp); have HO3 := Lib.hid ho3; have HB9 := Lib.hid hb9; clear ho3 hb9 k9))
                  · skip
                    have st10 := st9.swap (HL8.out.below HB9.out) HS3.out hok2 (Lst.new HO3.out ST8.out.own1.inn ST8.out.own2.inn ST8.out.le)
                    have hlt10 := st10.blk.lt
                    have ST10 := Lib.hid st10
                    have HP := Lib.hid (permHas_any _ _ A3 (n2 + 1) c3 (putV ys x) p x st10.s.arg (Nat.le_refl _))
                    rw [semV_ok hok2, hok2, Bool.true_and] at HP
                    clear g0 g1 r0 r1 c0 c1 d0 d1 dl rl f0 f1 g2 g3
                    have g0 := st10.blk.cell 0 _ rfl
                    have g1 := st10.blk.cell 1 _ rfl
                    clear st9 st10
                    go_wp2_with fail
                    refine HP.out.mono ?_
                    rintro e w11 ⟨rfl, hb⟩
                    have st11 := ST10.out.below hb
                    have HQ := Lib.hid (refHas_any w11 _ H3 (n2 + 1) c4 (putV ys x) x st11.h.arg)
                    have ST11 := Lib.hid st11
                    clear hb st11 g0 g1
                    go_wp2_with fail
                    with_reducible refine HQ.out.mono ?_
                    rintro e w12 ⟨rfl, rfl⟩
                    go_wp2
                    go_roundw
                    case rel => exact ⟨i + 1, _, _, _, _, _, _, _, _, _, _, _, by omega, by go_num, rfl, rfl, rfl, ST11.out⟩
                    case measure => simp [intOf]; omega
                  · skip
                    have st10 := st9.swap (HL8.out.below HB9.out) HS3.out hok2 (Lst.new HO3.out ST8.out.own1.inn ST8.out.own2.inn ST8.out.le)
                    have hlt10 := st10.blk.lt
                    have ST10 := Lib.hid st10
                    have HP := Lib.hid (permHas_any _ _ A3 (n2 + 1) c3 (putV ys x) p x st10.s.arg (Nat.le_refl _))
                    rw [semV_ok hok2, hok2, Bool.true_and] at HP
                    clear g0 g1 r0 r1 c0 c1 d0 d1 dl rl f0 f1 g2 g3
                    have g0 := st10.blk.cell 0 _ rfl
                    have g1 := st10.blk.cell 1 _ rfl
                    clear st9 st10
                    go_wp2_with fail
                    refine HP.out.mono ?_
                    rintro e w11 ⟨rfl, hb⟩
                    have st11 := ST10.out.below hb
                    have HQ := Lib.hid (refHas_any w11 _ H3 (n2 + 1) c4 (putV ys x) x st11.h.arg)
                    have ST11 := Lib.hid st11
                    clear hb st11 g0 g1
                    go_wp2_with fail
                    with_reducible refine HQ.out.mono ?_
                    rintro e w12 ⟨rfl, rfl⟩
                    go_wp2
                    go_roundw
                    case rel => exact ⟨i + 1, _, _, _, _, _, _, _, _, _, _, _, by omega, by go_num, rfl, rfl, rfl, ST11.out⟩
                    case measure => simp [intOf]; omega
              · have HTE : takeE p ys x = 8 := by unfold takeE; rw [if_neg (by omega), if_neg (by rw [ST6.out.ok]; simp), if_pos hG]
                have HNZ : takeE p ys x ≠ 0 := by rw [HTE]; omega
                have HT := Lib.hid (take_bad (p := p) (t := x) st6.s.arg (Nat.le_refl _) HNZ)
                rw [HTE] at HT
                clear st6
                go_wp2_with fail
                with_reducible refine HT.out.mono ?_
                rintro e w7 ⟨rfl, hb⟩
                have st7 := (ST6.out.below hb).alloc (.cells #[.int .i64 0, .slice none 0 0] 52)
                have ST7 := Lib.hid st7
                clear hb r0 r1 rl
                have r0 := st7.blk.cell 0 _ rfl
                have r1 := st7.blk.cell 1 _ rfl
                have rl := st7.blk.lt
                have HP := Lib.hid (permHas_any (w7.alloc (.cells #[.int .i64 0, .slice none 0 0] 52)) _ A2 n2 c2 ys p x st7.s.arg (Nat.le_refl _))
                rw [hok, st7.ok, Bool.true_and] at HP
                rw [hG] at HP
                clear st7
                go_wp2_with fail
                with_reducible refine HP.out.mono ?_
                rintro e w8 ⟨rfl, hb⟩
                have st8 := ST7.out.below hb
                have HQ := Lib.hid (refHas_any w8 _ H n2 hc ys x st8.h.arg)
                rw [hG] at HQ
                have ST8 := Lib.hid st8
                clear hb st8 r0 r1 rl
                go_wp2_with fail
                with_reducible refine HQ.out.mono ?_
                rintro e w9 ⟨rfl, rfl⟩
                go_wp2
                go_roundw
                case rel => exact ⟨i + 1, _, _, _, _, _, _, _, _, _, _, _, by omega, by go_num, rfl, rfl, rfl, ST8.out⟩
                case measure => simp [intOf]; omega
    · have hi2 : i = m := by omega
      subst hi2
      have j2 : i ≤ i := Nat.le_refl _
      have j3 : ¬ (i : Int) < (i : Int) := by omega
      have s0 := st.blk.cell 0 _ rfl
      have s1 := st.blk.cell 1 _ rfl
      have sl := st.blk.lt
      clear st
      go_wp2
      go_loopw [161] (fun iv wx => ∃ k : Nat, k ≤ i ∧ iv = .int .i64 (k : Int) ∧ ScrSt w w2.heap.size p wx i rows Bv cb Cv cc A2 n2 c2 H hc ys) (fun iv _ => i - (intOf iv).toNat)
      case atStart => exact ⟨0, Nat.zero_le _, rfl, ST.out⟩
      case round =>
        clear ST s0 s1 sl
        obtain ⟨k, hk, rfl, st⟩ := hrel
        have ST3 := Lib.hid st
        rcases Nat.lt_or_ge k i with hki | hki
        · have k1 : (k : Int) < (i : Int) := by omega
          have hlr : k < rows.length := by rw [st.len]; exact hki
          have hr := st.rows_ rows[k] (List.getElem_mem hlr)
          have q := RC_at p rows k hlr
          have qc := CC_at rows k hlr
          obtain ⟨b1, o1, e1, hb1, hc1⟩ := st.own1.arg.at_ (by omega)
          obtain ⟨b2, o2, e2, hb2, hc2⟩ := st.own2.arg.at_ (by omega)
          generalize rows[k] = r at hr q qc
          have q0 : wr.cell? ⟨b1, o1 + k * 2, none⟩ = some (.int .i64 p) := (hc1 (k * 2) (by omega)).trans q.1
          have q1 : wr.cell? ⟨b1, o1 + k * 2 + 1, none⟩ = some (.slice r.A r.n r.c) := (hc1 (k * 2 + 1) (by omega)).trans q.2
          have q2 : wr.cell? ⟨b2, o2 + k, none⟩ = some (.int .i64 (r.n : Int)) := (hc2 k (by omega)).trans qc
          clear st q qc hc1 hc2
          subst e1 e2
          obtain ⟨RA, rn, rc, rx⟩ := r
          simp only at q0 q1 q2 hr
          have hl4 := hr.1.below ((Below.refl _ _).alloc (Nat.le_refl _) (.cells #[.int .i64 p, .slice RA rn rc] 52))
          have HX := Lib.hid (permCheck_any (wr.alloc (.cells #[.int .i64 p, .slice RA rn rc] 52)).drew _ RA rn rc rx p (hl4.drewN 1).arg (Nat.le_refl _))
          rw [semV_ok hr.2] at HX
          have hnn : ((rn : Int) != (rn : Int)) = false := by simp
          have k8 := BlkL.new wr [.int .i64 p, .slice RA rn rc] 52
          have K8 := Lib.hid k8.drew
          have q3 : ((wr.alloc (.cells #[.int .i64 p, .slice RA rn rc] 52)).drew).cell? ⟨b2, o2 + k, none⟩ = some (.int .i64 (rn : Int)) := (World.cell?_of_block (w := wr) (Below.heap_alloc wr _ b2 hb2)).trans q2
          have Q3 := Lib.hid q3
          have hb2' : b2 < (wr.alloc (.cells #[.int .i64 p, .slice RA rn rc] 52)).drew.heap.size := by simp; omega
          clear hl4 hr q3
          have d0 := k8.cell 0 _ rfl
          have d1 := k8.cell 1 _ rfl
          have dl := k8.lt
          clear k8
          go_wp2_with fail
          go_region_with
            (first
              | ((with_reducible refine HX.out.mono ?_); rintro e w9 ⟨rfl, hb9⟩; have k9 := K8.out.below hb9; have c0 := k9.cell 0 _ rfl; have c1 := k9.cell 1 _ rfl; have q9 := (hb9.cell (p := ⟨b2, o2 + k, none⟩) hb2').trans Q3.out; have HB9 := Lib.hid hb9; clear hb9 k9))
          all_goals go_wp2
          all_goals go_roundw
          all_goals first | exact ⟨k + 1, by omega, by go_num, ((ST3.out.alloc _).below (Below.refl _ _).drew).below HB9.out⟩ | (simp [intOf]; omega)
        · have hk2 : k = i := by omega
          subst hk2
          have k1 : ¬ (k : Int) < (k : Int) := by omega
          have s0 := st.blk.cell 0 _ rfl
          have s1 := st.blk.cell 1 _ rfl
          have sl := st.blk.lt
          have HS := Lib.hid (sameInts_yes wr _ _ A2 H n2 c2 n2 hc ys ys rfl st.s.arg st.h.arg)
          clear st
          go_wp2_with fail
          with_reducible refine HS.out.mono ?_
          rintro e w9 ⟨rfl, hb⟩
          go_wp2
          go_ret
          exact ⟨rfl, ST3.out.bel.trans (hb.mono ST3.out.bel.size)⟩

end Go.Proofs.Ytpeijhlheencnaa
