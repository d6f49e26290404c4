/- Contracts: the document's reader: DocFeed, Waiting, DocEnd. -/
import Derived.Test.YtlkkldegbopnpaaFrDA
namespace Go.Proofs.Ytlkkldegbopnpaa
open Go.RowKit
set_option maxRecDepth 100000
set_option linter.unusedVariables false

theorem elemL : Try.prog.underlying 46 = some (.slice (Try.prog.elem 46)) := by kernel_rfl
theorem sizeL (w : World) : (sizeOf (Try.prog.elem 46)).run Try.prog w = .ok 1 w := by kernel_rfl
theorem run_fromL (w : World) (A : Option Addr) (n c k : Nat) (hk : k ≤ n) : (Instr.slice 46 (.slice A n c) (some (.int .i64 (k : Int))) none none).run Try.prog w = .ok (.slice (frB A c k) (n - k) (c - k)) w := by
  rw [run_slice_l (ht := elemL) (h0 := by omega) (h1 := by omega), sizeL]
  simp [Result.andThen, sliced, frB]
theorem ArgL.fromL {w : World} {B n c : Nat} {A : Option Addr} {ps : List (List Nat)} (h : ArgL w B A n c ps) {k : Nat} (hk : k ≤ n) : ArgL w B (frB A c k) (n - k) (c - k) (ps.drop k) := by
  refine ⟨by rw [List.length_drop, h.len], by have := h.le; omega, by have := h.cap; omega, fun he => ?_, fun hn => ?_⟩
  · have hA : A = none := by
      unfold frB at he
      split at he
      · exact he
      · cases A with
        | none => rfl
        | some a => cases he
    have := h.none_ hA
    omega
  · obtain ⟨b, off, rfl, hb, hc⟩ := h.at_ (by omega)
    unfold frB
    rw [if_neg (by have := h.le; omega)]
    refine ⟨b, off + k, ?_, hb, fun j hj => ?_⟩
    · by_cases h0 : k = 0 <;> simp [Addr.add, h0]
    · obtain ⟨Ai, ni, ci, h1, h2⟩ := hc (k + j) (by omega)
      rw [← Nat.add_assoc] at h1
      refine ⟨Ai, ni, ci, h1, ?_⟩
      have e : (ps.drop k).getD j [] = ps.getD (k + j) [] := by simp [List.getD_eq_getElem?_getD, List.getElem?_drop]
      rw [e]; exact h2
theorem BlkL.put1 {w : World} {b : Nat} {x0 x1 x2 : Value} (h : BlkL w b [x0, x1, x2]) (v : Value) : BlkL (w.setCell ⟨b, 1, none⟩ v) b [x0, v, x2] := h.set 1 v (by simp)

/-- The document's reader in memory. -/
structure DdM (w : World) (B db : Nat) (A : Option Addr) (n c : Nat) (xs : List Nat) (told : Nat) (cl : Bool) : Prop where
  blk : BlkL w db [.slice A n c, .int .i64 (told : Int), .bool cl]
  own : OwnV w B A n c (xs.map V8)
  byte : ∀ d ∈ xs, d < 256
  ne : db ∉ bkV A
section
variable {w w' : World} {B B' db n c told : Nat} {A : Option Addr} {xs : List Nat} {cl : Bool} {S : List Nat}
theorem DdM.off (h : DdM w B db A n c xs told cl) (hf : Off S w w') (h1 : db ∉ S) (h2 : ∀ y ∈ bkV A, y ∉ S) : DdM w' B db A n c xs told cl := ⟨h.blk.off hf h1, h.own.off hf h2, h.byte, h.ne⟩
theorem DdM.below (h : DdM w B db A n c xs told cl) (hb : Below w.heap.size w w') : DdM w' B db A n c xs told cl := h.off (S := []) (Off.of_below hb) (by simp) (by simp)
theorem DdM.len (h : DdM w B db A n c xs told cl) : xs.length = n := by have := h.own.len; simpa using this
end
theorem dfeed_closed (w : World) (db : Nat) (x y v : Value) (h : BlkL w db [x, y, .bool true]) : Calls Try.prog 35 #[.pointer (some ⟨db, 0, none⟩), v] w fun e w' => e = .returned (.tuple #[.slice none 0 0, .int .i64 13]) ∧ w = w' := by
  have h2 := h.cell 2 _ rfl
  clear h
  go_enter Try.func35, Try.ntmps35
  go_wp2
  go_ret2
  exact ⟨rfl, rfl⟩
theorem dwait_closed (w : World) (db : Nat) (x y : Value) (h : BlkL w db [x, y, .bool true]) : Calls Try.prog 38 #[.pointer (some ⟨db, 0, none⟩)] w fun e w' => e = .returned (.int .i64 0) ∧ w = w' := by
  have h2 := h.cell 2 _ rfl
  clear h
  go_enter Try.func38, Try.ntmps38
  go_wp2
  go_ret
  exact ⟨rfl, rfl⟩
theorem dwait_open (w : World) (B db : Nat) (A : Option Addr) (n c : Nat) (xs : List Nat) (told : Nat) (h : DdM w B db A n c xs told false) (hn : n ≤ 29000000000000) : Calls Try.prog 38 #[.pointer (some ⟨db, 0, none⟩)] w (ValEnd w (.int .i64 ((Fr.frV xs).2.1.length : Int))) := by
  have h0 := h.blk.cell 0 _ rfl
  have h2 := h.blk.cell 2 _ rfl
  have HF := Lib.hid (frames_any w w.heap.size A n c xs (h.own.arg' h.byte) (Nat.le_refl _) hn)
  have HL := Lib.hid h.len
  have H := Lib.hid h
  clear h
  go_enter Try.func38, Try.ntmps38
  go_wp2_with (with_reducible refine (HF.out).mono ?_)
  rintro e w1 ⟨LA, k, kc, rs, rfl, h3, h4, h5⟩
  have c0 := (H.out.blk.below h5).cell 0 _ rfl
  have HB := Lib.hid h5
  obtain ⟨q, hq, hr⟩ := Fr.fr_rest xs
  have e1 : (n : Int) - ((xs.length - (Fr.frV xs).2.1.length : Nat) : Int) = ((Fr.frV xs).2.1.length : Int) := by
    rw [hr, List.length_drop, HL.out]
    have := HL.out
    omega
  have hql : (Fr.frV xs).2.1.length ≤ 29000000000000 := by rw [hr, List.length_drop, HL.out]; omega
  clear h3 h4 h5 hr hq h0 h2
  generalize ((xs.length - (Fr.frV xs).2.1.length : Nat) : Int) = z at *
  generalize (Fr.frV xs).2.1.length = ql at *
  go_wp2
  go_ret
  exact ⟨rfl, HB.out⟩
theorem dend_closed (w : World) (db : Nat) (x y : Value) (h : BlkL w db [x, y, .bool true]) : Calls Try.prog 33 #[.pointer (some ⟨db, 0, none⟩)] w fun e w' => e = .returned (.tuple #[.int .i64 0, .int .i64 13]) ∧ w = w' := by
  have h2 := h.cell 2 _ rfl
  clear h
  go_enter Try.func33, Try.ntmps33
  go_wp2
  go_ret2
  exact ⟨rfl, rfl⟩
/-- How DocEnd ends: all is closed. -/
def DEndE (w : World) (B db : Nat) (A : Option Addr) (n c : Nat) (xs : List Nat) (told : Nat) (e : Ending) (w' : World) : Prop :=
  e = .returned (.tuple #[.int .i64 ((Fr.frV xs).2.1.length : Int), .int .i64 0]) ∧ DdM w' B db A n c xs told true ∧ Off [db] w w'
theorem dend_open (w : World) (B db : Nat) (A : Option Addr) (n c : Nat) (xs : List Nat) (told : Nat) (h : DdM w B db A n c xs told false) (hn : n ≤ 29000000000000) : Calls Try.prog 33 #[.pointer (some ⟨db, 0, none⟩)] w (DEndE w B db A n c xs told) := by
  have h2 := h.blk.cell 2 _ rfl
  have HW := Lib.hid (dwait_open w B db A n c xs told h hn)
  have H := Lib.hid h
  clear h
  go_enter Try.func33, Try.ntmps33
  go_wp2_with (with_reducible refine (HW.out).mono ?_)
  rintro e w1 ⟨rfl, hb⟩
  have H1 := Lib.hid (H.out.below hb)
  have c2 := H1.out.blk.cell 2 _ rfl
  have f2 := H1.out.blk.froz 2 (by simp)
  have l1 := H1.out.blk.lt
  have HB := Lib.hid hb
  clear hb h2
  go_wp2
  go_ret2
  have hof : Off [db] w1 (w1.setCell ⟨db, 2, none⟩ (.bool true)) := (Off.refl _ _).setCell (p := ⟨db, 2, none⟩) (by simp) _
  refine ⟨rfl, ⟨H1.out.blk.set 2 _ (by simp), H1.out.own.off hof (fun y hy hs => by simp at hs; subst hs; exact H1.out.ne hy), H1.out.byte, H1.out.ne⟩, (Off.of_below HB.out).trans hof⟩

def DFeedE (w : World) (B db : Nat) (A : Option Addr) (xs zs : List Nat) (told : Nat) (e : Ending) (w' : World) : Prop :=
  ∃ LA k kc A' n' c', e = .returned (.tuple #[.slice LA k kc, .int .i64 (erV (Fr.frV (xs ++ zs)).2.2)]) ∧ ArgL w' w'.heap.size LA k kc ((Fr.frV (xs ++ zs)).1.drop told) ∧
    DdM w' B db A' n' c' (xs ++ zs) (Fr.frV (xs ++ zs)).1.length (Fr.frV (xs ++ zs)).2.2 ∧ Off (db :: bkV A) w w' ∧ ∀ y ∈ bkV A', y ∈ bkV A ∨ w.heap.size ≤ y
set_option maxHeartbeats 3200000 in
theorem dfeed_open (w : World) (B db : Nat) (A : Option Addr) (n c : Nat) (xs : List Nat) (told : Nat) (S : Option Addr) (m d : Nat) (zs : List Nat) (h : DdM w B db A n c xs told false) (ha : Arg w w.heap.size S m d zs) (hB : B ≤ w.heap.size)
    (hnm : n + m ≤ 29000000000000) (ht : told ≤ (Fr.frV (xs ++ zs)).1.length) :
    Calls Try.prog 35 #[.pointer (some ⟨db, 0, none⟩), .slice S m d] w (DFeedE w B db A xs zs told) := by
  obtain ⟨i0, hi, hz0, hz1, hz2⟩ := info_parts u8_info
  have h0 := h.blk.cell 0 _ rfl
  have h2 := h.blk.cell 2 _ rfl
  have HO := Lib.hid h.own
  have HSR := Lib.hid ha.src
  have HN : Hid (S = none → d = 0) := Lib.hid fun e => (ha.none_ e).2
  have H := Lib.hid h
  have HBY : Hid (∀ y ∈ xs ++ zs, y < 256) := Lib.hid fun y hy => (List.mem_append.1 hy).elim (h.byte y) (ha.byte y)
  have HT := Lib.hid ht
  clear h ha ht
  go_enter Try.func35, Try.ntmps35
  go_wp2_with (refine wpList_append_a Try.underlying22 hi hz0 hz1 hz2 rfl rfl (.tmp 19) (.tmp 20) rfl rfl HO.out S m d _ rfl HSR.out HN.out (by omega) (by omega) hB ?_)
  intro A' c' w5 o5 f5 g5
  have hne : db ∉ bkV A' := fun hy => by
    rcases g5 _ hy with h | ⟨h, _⟩
    · exact H.out.ne h
    · have := H.out.blk.lt; omega
  have b5 := H.out.blk.off f5 H.out.ne
  have c05 := b5.cell 0 _ rfl
  have f05 := b5.froz 0 (by simp)
  have b6 := b5.set 0 (.slice A' (n + m) c') (by simp)
  have of6 : Off [db] w5 (w5.setCell ⟨db, 0, none⟩ (.slice A' (n + m) c')) := (Off.refl _ _).setCell (p := ⟨db, 0, none⟩) (by simp) _
  have o6 : OwnV (w5.setCell ⟨db, 0, none⟩ (.slice A' (n + m) c')) B A' (n + m) c' ((xs ++ zs).map V8) := by
    have := o5.off of6 (fun y hy hs => by simp at hs; subst hs; exact hne hy)
    rwa [← List.map_append] at this
  have D6 : Hid (DdM (w5.setCell ⟨db, 0, none⟩ (.slice A' (n + m) c')) B db A' (n + m) c' (xs ++ zs) told false) := Lib.hid ⟨b6, o6, HBY.out, hne⟩
  have F6 : Hid (Off (db :: bkV A) w (w5.setCell ⟨db, 0, none⟩ (.slice A' (n + m) c'))) := Lib.hid ((f5.mono (by intro y hy; exact List.mem_cons_of_mem _ hy)).trans (of6.mono (by simp)))
  have G6 : Hid (∀ y ∈ bkV A', y ∈ bkV A ∨ w.heap.size ≤ y) := Lib.hid fun y hy => (g5 y hy).imp id fun h => by omega
  have l5 := b5.lt
  have HF := Lib.hid (frames_any _ _ A' (n + m) c' (xs ++ zs) (D6.out.own.arg' HBY.out) (Nat.le_refl _) (by omega))
  clear h0 h2 o5 f5 g5 hne b5 b6 of6 o6 HO HSR
  go_wp2_with fail
  generalize w5.setCell ⟨db, 0, none⟩ (.slice A' (n + m) c') = w6 at *
  have c06 := D6.out.blk.cell 0 _ rfl
  with_reducible refine (HF.out).mono ?_
  rintro e w7 ⟨LA, k, kc, rs, rfl, q2, q3, q4⟩
  have d7 := D6.out.below q4
  have D7 := Lib.hid d7
  have hk : (Fr.frV (xs ++ zs)).1.length = k := by rw [← q2, List.length_map]; exact q3.len
  have ht := HT.out
  rw [hk] at ht
  have harg := (q3.arg).fromL ht
  rw [q2] at harg
  have HAR := Lib.hid harg
  have hsl := fun wz => run_fromL wz LA k kc told ht
  have F7 := Lib.hid (F6.out.trans (Off.of_below q4))
  have HKK := Lib.hid hk
  have et : (told : Int) + ((k - told : Nat) : Int) = (k : Int) := by omega
  have ew : IntKind.i64.wrap (k : Int) = (k : Int) := IntWalk.i64_in _ (by have := q3.own.cap; have := q3.own.le; unfold maxLen at *; omega)
  have c1 := d7.blk.cell 1 _ rfl
  have f1 := d7.blk.froz 1 (by simp)
  have l7 := d7.blk.lt
  -- behind the count's store
  have hof : Off [db] w7 (w7.setCell ⟨db, 1, none⟩ (.int .i64 (k : Int))) := (Off.refl _ _).setCell (p := ⟨db, 1, none⟩) (by simp) _
  have d8 : DdM (w7.setCell ⟨db, 1, none⟩ (.int .i64 (k : Int))) B db A' (n + m) c' (xs ++ zs) k false :=
    ⟨d7.blk.put1 _, d7.own.off hof (fun y hy hs => by simp at hs; subst hs; exact d7.ne hy), d7.byte, d7.ne⟩
  have D8 := Lib.hid d8
  have f2 := d8.blk.froz 2 (by simp)
  have c2 := d8.blk.cell 2 _ rfl
  have hofF : Off (db :: bkV A) w (w7.setCell ⟨db, 1, none⟩ (.int .i64 (k : Int))) := F7.out.trans (hof.mono (by simp))
  have HAR8 : Hid (ArgL (w7.setCell ⟨db, 1, none⟩ (.int .i64 (k : Int))) w7.heap.size (frB LA kc told) (k - told) (kc - told) ((Fr.frV (xs ++ zs)).1.drop told)) := by
    have hlt : ∀ y ∈ blkP LA rs, w6.heap.size ≤ y := fun y hy => (q3.lt y hy).1
    have q8 := q3.off hof (fun y hy hs => by have := hlt y hy; have := D6.out.blk.lt; simp at hs; omega)
    have h9 := q8.arg.fromL ht
    rw [q2] at h9
    exact Lib.hid (by simpa using h9)
  have HAB : Hid (ArgL ((w7.setCell ⟨db, 1, none⟩ (.int .i64 (k : Int))).setCell ⟨db, 2, none⟩ (.bool true)) w7.heap.size (frB LA kc told) (k - told) (kc - told) ((Fr.frV (xs ++ zs)).1.drop told)) := by
    have hlt : ∀ y ∈ blkP LA rs, w6.heap.size ≤ y := fun y hy => (q3.lt y hy).1
    have q8 := q3.off (hof.setCell (p := ⟨db, 2, none⟩) (by simp) (.bool true)) (fun y hy hs => by have := hlt y hy; have := D6.out.blk.lt; simp at hs; omega)
    have h9 := q8.arg.fromL ht
    rw [q2] at h9
    exact Lib.hid (by simpa using h9)
  have HF8 := Lib.hid hofF
  have HS8 : Hid (w7.heap.size ≤ (w7.setCell ⟨db, 1, none⟩ (.int .i64 (k : Int))).heap.size) := Lib.hid (by simp)
  clear q2 q3 q4 d7 hk harg HAR D7 F7 hof d8 hofF D6 F6 HF c06 c05 f05 l5
  have HT2 := Lib.hid ht
  obtain ⟨F, hF⟩ : ∃ F, Fr.frV (xs ++ zs) = F := ⟨_, rfl⟩
  have HP : Hid (∀ e w', (∃ LA k kc A' n' c', e = .returned (.tuple #[.slice LA k kc, .int .i64 (erV F.2.2)]) ∧ ArgL w' w'.heap.size LA k kc (F.1.drop told) ∧
    DdM w' B db A' n' c' (xs ++ zs) F.1.length F.2.2 ∧ Off (db :: bkV A) w w' ∧ ∀ y ∈ bkV A', y ∈ bkV A ∨ w.heap.size ≤ y) → DFeedE w B db A xs zs told e w') := Lib.hid fun e w' h => by unfold DFeedE; rw [hF]; exact h
  rw [hF] at HKK HAR8 HAB ⊢
  clear hF HT ht
  obtain ⟨ps, rest, bad⟩ := F
  cases bad with
  | false =>
    go_wp2
    go_ret2
    refine HP.out _ _ ⟨frB LA kc told, k - told, kc - told, A', n + m, c', rfl, HAR8.out.more HS8.out, ?_, HF8.out, G6.out⟩
    have := D8.out
    have hk := HKK.out
    show DdM _ B db A' (n + m) c' (xs ++ zs) ps.length false
    rw [hk]; exact this
  | true =>
    have hof : Off [db] (w7.setCell ⟨db, 1, none⟩ (.int .i64 (k : Int))) ((w7.setCell ⟨db, 1, none⟩ (.int .i64 (k : Int))).setCell ⟨db, 2, none⟩ (.bool true)) := (Off.refl _ _).setCell (p := ⟨db, 2, none⟩) (by simp) _
    have hd9 : DdM ((w7.setCell ⟨db, 1, none⟩ (.int .i64 (k : Int))).setCell ⟨db, 2, none⟩ (.bool true)) B db A' (n + m) c' (xs ++ zs) k true :=
      ⟨D8.out.blk.set 2 _ (by simp), D8.out.own.off hof (fun y hy hs => by simp at hs; subst hs; exact D8.out.ne hy), D8.out.byte, D8.out.ne⟩
    have HD9 := Lib.hid hd9
    have HF9 := Lib.hid (HF8.out.trans (hof.mono (by simp)))
    clear hof hd9
    go_wp2
    go_ret2
    refine HP.out _ _ ⟨frB LA kc told, k - told, kc - told, A', n + m, c', rfl, HAB.out.more (by simp), ?_, HF9.out, G6.out⟩
    have := HD9.out
    have hk := HKK.out
    show DdM _ B db A' (n + m) c' (xs ++ zs) ps.length true
    rw [hk]; exact this
end Go.Proofs.Ytlkkldegbopnpaa
