/- The document's shard beside the program's: all. -/
import Derived.Test.YtpjgpiiibgogeaaNiA
import Derived.Test.YtpjgpiiibgogeaaRfC
import Derived.Test.YtpjgpiiibgogeaaShT
import Derived.BigQuiet
import Derived.Test.YtpjgpiiibgogeaaEnE
import Derived.Test.YtpjgpiiibgogeaaSpare

/- The document's shard in memory; contracts: New, end, DocStart, Pending. -/
namespace Go.Proofs.Ytpjgpiiibgogeaa
open Go.RowKit
set_option maxRecDepth 100000
set_option linter.unusedVariables false

/-- A call of the document: its kind, where its key lies, its bytes, the value, the version that was read. -/
structure DcC where
  op : Nat
  A : Option Addr
  n : Nat
  c : Nat
  zs : List Nat
  x : Int
  r : Nat
abbrev zDc : DcC := ⟨0, none, 0, 0, [], 0, 0⟩
def DcC.cells (e : DcC) : List Value := [.int .u8 (e.op : Int), .slice e.A e.n e.c, .int .i64 e.x, .int .i64 (e.r : Int)]
def dcF (v : Nat) (A : Option Addr) (n c : Nat) (dc : Nat → DcC) : Nat → Value
  | 0 => .int .i64 (v : Int)
  | 1 => .slice A n c
  | j + 2 => (dc (j / 4)).cells.getD (j % 4) .nilFunc
section
variable {v n c : Nat} {A : Option Addr} {dc : Nat → DcC}
theorem dcF_0 (i : Nat) : dcF v A n c dc (2 + i * 4) = .int .u8 ((dc i).op : Int) := by
  rw [show 2 + i * 4 = i * 4 + 2 by omega]
  show (dc (i * 4 / 4)).cells.getD (i * 4 % 4) .nilFunc = _
  rw [show i * 4 / 4 = i by omega, show i * 4 % 4 = 0 by omega]; rfl
theorem dcF_1 (i : Nat) : dcF v A n c dc (2 + i * 4 + 1) = .slice (dc i).A (dc i).n (dc i).c := by
  rw [show 2 + i * 4 + 1 = i * 4 + 1 + 2 by omega]
  show (dc ((i * 4 + 1) / 4)).cells.getD ((i * 4 + 1) % 4) .nilFunc = _
  rw [show (i * 4 + 1) / 4 = i by omega, show (i * 4 + 1) % 4 = 1 by omega]; rfl
theorem dcF_2 (i : Nat) : dcF v A n c dc (2 + i * 4 + 2) = .int .i64 (dc i).x := by
  rw [show 2 + i * 4 + 2 = i * 4 + 2 + 2 by omega]
  show (dc ((i * 4 + 2) / 4)).cells.getD ((i * 4 + 2) % 4) .nilFunc = _
  rw [show (i * 4 + 2) / 4 = i by omega, show (i * 4 + 2) % 4 = 2 by omega]; rfl
theorem dcF_3 (i : Nat) : dcF v A n c dc (2 + i * 4 + 3) = .int .i64 ((dc i).r : Int) := by
  rw [show 2 + i * 4 + 3 = i * 4 + 3 + 2 by omega]
  show (dc ((i * 4 + 3) / 4)).cells.getD ((i * 4 + 3) % 4) .nilFunc = _
  rw [show (i * 4 + 3) / 4 = i by omega, show (i * 4 + 3) % 4 = 3 by omega]; rfl
theorem dcF_v (v' : Nat) : updF (dcF v A n c dc) 0 (.int .i64 (v' : Int)) = dcF v' A n c dc := by
  funext j
  match j with
  | 0 => rfl
  | 1 => rfl
  | j + 2 => unfold updF; rw [if_neg (by omega)]; rfl
theorem dcF_e (A' : Option Addr) (n' c' : Nat) : updF (dcF v A n c dc) 1 (.slice A' n' c') = dcF v A' n' c' dc := by
  funext j
  match j with
  | 0 => rfl
  | 1 => rfl
  | j + 2 => unfold updF; rw [if_neg (by omega)]; rfl
theorem dcF_set (i : Nat) (p : DcC) : updF (updF (updF (updF (dcF v A n c dc) (2 + i * 4) (.int .u8 (p.op : Int))) (2 + i * 4 + 1) (.slice p.A p.n p.c)) (2 + i * 4 + 1 + 1) (.int .i64 p.x)) (2 + i * 4 + 1 + 1 + 1) (.int .i64 (p.r : Int)) = dcF v A n c (updF dc i p) := by
  funext j
  match j with
  | 0 => unfold updF; repeat rw [if_neg (by omega)]
         rfl
  | 1 => unfold updF; repeat rw [if_neg (by omega)]
         rfl
  | k + 2 =>
    by_cases hq : k / 4 = i
    · have : k = i * 4 ∨ k = i * 4 + 1 ∨ k = i * 4 + 2 ∨ k = i * 4 + 3 := by omega
      show _ = ((updF dc i p) (k / 4)).cells.getD (k % 4) .nilFunc
      rw [hq, updF_same]
      rcases this with rfl | rfl | rfl | rfl
      · rw [updF_other _ _ _ _ (by omega), updF_other _ _ _ _ (by omega), updF_other _ _ _ _ (by omega), show i * 4 + 2 = 2 + i * 4 by omega, updF_same, show i * 4 % 4 = 0 by omega]; rfl
      · rw [updF_other _ _ _ _ (by omega), updF_other _ _ _ _ (by omega), show i * 4 + 1 + 2 = 2 + i * 4 + 1 by omega, updF_same, show (i * 4 + 1) % 4 = 1 by omega]; rfl
      · rw [updF_other _ _ _ _ (by omega), show i * 4 + 2 + 2 = 2 + i * 4 + 1 + 1 by omega, updF_same, show (i * 4 + 2) % 4 = 2 by omega]; rfl
      · rw [show i * 4 + 3 + 2 = 2 + i * 4 + 1 + 1 + 1 by omega, updF_same, show (i * 4 + 3) % 4 = 3 by omega]; rfl
    · rw [updF_other _ _ _ _ (by omega), updF_other _ _ _ _ (by omega), updF_other _ _ _ _ (by omega), updF_other _ _ _ _ (by omega)]
      show (dc (k / 4)).cells.getD (k % 4) .nilFunc = ((updF dc i p) (k / 4)).cells.getD (k % 4) .nilFunc
      rw [updF_other _ _ _ _ hq]
theorem dcF_r (i r : Nat) : updF (dcF v A n c dc) (2 + i * 4 + 3) (.int .i64 (r : Int)) = dcF v A n c (updF dc i { dc i with r := r }) := by
  funext j
  match j with
  | 0 => unfold updF; rw [if_neg (by omega)]; rfl
  | 1 => unfold updF; rw [if_neg (by omega)]; rfl
  | k + 2 =>
    by_cases hq : k / 4 = i
    · have : k = i * 4 ∨ k = i * 4 + 1 ∨ k = i * 4 + 2 ∨ k = i * 4 + 3 := by omega
      show _ = ((updF dc i _) (k / 4)).cells.getD (k % 4) .nilFunc
      rw [hq, updF_same]
      rcases this with rfl | rfl | rfl | rfl
      · rw [updF_other _ _ _ _ (by omega), show i * 4 + 2 = 2 + i * 4 by omega, dcF_0, show i * 4 % 4 = 0 by omega]; rfl
      · rw [updF_other _ _ _ _ (by omega), show i * 4 + 1 + 2 = 2 + i * 4 + 1 by omega, dcF_1, show (i * 4 + 1) % 4 = 1 by omega]; rfl
      · rw [updF_other _ _ _ _ (by omega), show i * 4 + 2 + 2 = 2 + i * 4 + 2 by omega, dcF_2, show (i * 4 + 2) % 4 = 2 by omega]; rfl
      · rw [show i * 4 + 3 + 2 = 2 + i * 4 + 3 by omega, updF_same, show (i * 4 + 3) % 4 = 3 by omega]; rfl
    · rw [updF_other _ _ _ _ (by omega)]
      show (dc (k / 4)).cells.getD (k % 4) .nilFunc = ((updF dc i _) (k / 4)).cells.getD (k % 4) .nilFunc
      rw [updF_other _ _ _ _ hq]
end
/-- The document's shard at block dp, apart from the blocks Y. -/
structure DocR (w : World) (dp : Nat) (Y : List Nat) (v : Nat) (A : Option Addr) (n c : Nat) (es : List KV) (dc : Nat → DcC) : Prop where
  blk : BlkF w dp 258 (dcF v A n c dc)
  ver : VerA w w.heap.size (dp :: Y) A n c es
  wf : WfL (es.map KV.ent)
  key : ∀ j, j < 64 → Arg w w.heap.size (dc j).A (dc j).n (dc j).c (dc j).zs ∧ Apt (dp :: Y) (dc j).A (dc j).n ∧ (dc j).n ≤ 256
section
variable {w w' : World} {dp : Nat} {Y : List Nat} {v n c : Nat} {A : Option Addr} {es : List KV} {dc : Nat → DcC} {S : List Nat}
theorem DocR.off (h : DocR w dp Y v A n c es dc) (hb : Off S w w') (hd : dp ∉ S) (hS : Off (dp :: Y) w w') : DocR w' dp Y v A n c es dc :=
  ⟨h.blk.off hb hd, (h.ver.off (Nat.le_refl _) hS).more hS.size, h.wf, fun j hj => ⟨((h.key j hj).1.off (Nat.le_refl _) hS (h.key j hj).2.1).more hS.size, (h.key j hj).2⟩⟩
theorem DocR.below (h : DocR w dp Y v A n c es dc) (hb : Below w.heap.size w w') : DocR w' dp Y v A n c es dc :=
  h.off (S := []) (Off.of_below hb) (by simp) (Off.of_below hb)
theorem DocR.offY (h : DocR w dp Y v A n c es dc) (hb : Off Y w w') (hd : dp ∉ Y) : DocR w' dp Y v A n c es dc :=
  h.off hb hd (hb.mono (by intro x hx; simp [hx]))
theorem DocR.lt (h : DocR w dp Y v A n c es dc) : dp < w.heap.size := h.blk.lt
theorem DocR.c0 (h : DocR w dp Y v A n c es dc) : w.cell? ⟨dp, 0, none⟩ = some (.int .i64 (v : Int)) := h.blk.cell 0 (by omega)
theorem DocR.c1 (h : DocR w dp Y v A n c es dc) : w.cell? ⟨dp, 1, none⟩ = some (.slice A n c) := h.blk.cell 1 (by omega)
theorem DocR.k0 (h : DocR w dp Y v A n c es dc) {i : Nat} (hi : i < 64) : w.cell? ⟨dp, 2 + i * 4, none⟩ = some (.int .u8 ((dc i).op : Int)) := by rw [h.blk.cell _ (by omega), dcF_0]
theorem DocR.k1 (h : DocR w dp Y v A n c es dc) {i : Nat} (hi : i < 64) : w.cell? ⟨dp, 2 + i * 4 + 1, none⟩ = some (.slice (dc i).A (dc i).n (dc i).c) := by rw [h.blk.cell _ (by omega), dcF_1]
theorem DocR.k2 (h : DocR w dp Y v A n c es dc) {i : Nat} (hi : i < 64) : w.cell? ⟨dp, 2 + i * 4 + 2, none⟩ = some (.int .i64 (dc i).x) := by rw [h.blk.cell _ (by omega), dcF_2]
theorem DocR.k3 (h : DocR w dp Y v A n c es dc) {i : Nat} (hi : i < 64) : w.cell? ⟨dp, 2 + i * 4 + 3, none⟩ = some (.int .i64 ((dc i).r : Int)) := by rw [h.blk.cell _ (by omega), dcF_3]
theorem DocR.fr (h : DocR w dp Y v A n c es dc) {i : Nat} (hi : i < 258) : w.frozen? ⟨dp, i, none⟩ = false := h.blk.froz i hi
end
theorem flat_at (cs : List Value) (k j : Nat) (hc : cs.length = 4) (hj : j < k * 4) : (List.replicate k cs).flatten[j]? = cs[j % 4]? := by
  induction k generalizing j with
  | zero => omega
  | succ k ih =>
    rw [List.replicate_succ, List.flatten_cons]
    rcases Nat.lt_or_ge j 4 with h | h
    · rw [List.getElem?_append_left (by omega), Nat.mod_eq_of_lt h]
    · rw [List.getElem?_append_right (by omega), hc, ih _ (by omega), show (j - 4) % 4 = j % 4 by omega]
theorem dz_list : Try.zeroCells95.toList = .int .i64 0 :: .slice none 0 0 :: (List.replicate 64 zDc.cells).flatten := by kernel_rfl
theorem dz_set (v : Value) : Try.zeroCells95.setIfInBounds 0 v = (v :: .slice none 0 0 :: (List.replicate 64 zDc.cells).flatten).toArray := by
  apply Array.ext'
  rw [Array.toList_setIfInBounds, dz_list]
  rfl
theorem dcF_new (w : World) (T : TypeId) : BlkF (w.alloc (.cells (Value.int .i64 1 :: .slice none 0 0 :: (List.replicate 64 zDc.cells).flatten).toArray T)) w.heap.size 258 (dcF 1 none 0 0 (fun _ => zDc)) := by
  have h := BlkL.new w (Value.int .i64 1 :: .slice none 0 0 :: (List.replicate 64 zDc.cells).flatten) T
  have hlen : (List.replicate 64 zDc.cells).flatten.length = 256 := by
    rw [List.length_flatten]; simp [DcC.cells]
  refine ⟨h.lt, fun i hi => h.cell i _ ?_, fun i hi => h.froz i (by rw [List.length_cons, List.length_cons, hlen]; omega)⟩
  match i with
  | 0 => rfl
  | 1 => rfl
  | j + 2 =>
    show (List.replicate 64 zDc.cells).flatten[j]? = _
    rw [flat_at _ _ _ rfl (by omega)]
    show _ = some (zDc.cells.getD (j % 4) .nilFunc)
    rcases (by omega : j % 4 = 0 ∨ j % 4 = 1 ∨ j % 4 = 2 ∨ j % 4 = 3) with e | e | e | e <;> rw [e] <;> rfl
theorem dnew_any (w : World) (Y : List Nat) (hY : ∀ y ∈ Y, y < w.heap.size) : Calls Try.prog 34 #[] w fun e w' => ∃ dp, e = .returned (.pointer (some ⟨dp, 0, none⟩)) ∧ w.heap.size ≤ dp ∧ DocR w' dp Y 1 none 0 0 [] (fun _ => zDc) ∧ Below w.heap.size w w' := by
  go_enter Try.func34, Try.ntmps34
  go_wp2
  go_ret
  rw [dz_set]
  exact ⟨_, rfl, Nat.le_refl _, ⟨dcF_new w _, VerA.nil _ _ _, wf_nil, fun j hj => ⟨⟨rfl, Nat.le_refl 0, Nat.zero_le _, by simp, fun _ => ⟨rfl, rfl⟩, fun h => absurd h (Nat.lt_irrefl 0)⟩, Apt.nil _ _, Nat.zero_le _⟩⟩, (Below.refl _ _).alloc (Nat.le_refl _) _⟩
end Go.Proofs.Ytpjgpiiibgogeaa


/- The document's shard: end, DocStart, Pending. -/
namespace Go.Proofs.Ytpjgpiiibgogeaa
open Go.RowKit
set_option maxRecDepth 100000
set_option linter.unusedVariables false

theorem BlkF.other {w : World} {b n : Nat} {f : Nat → Value} (h : BlkF w b n f) (b' i : Nat) (v : Value) (hne : b' ≠ b) : BlkF (w.setCell ⟨b', i, none⟩ v) b n f :=
  h.off (S := [b']) ((Off.refl _ _).setCell (by simp) _) (by simpa using Ne.symm hne)
theorem OwnB.other {w : World} {B n c : Nat} {A : Option Addr} {xs : List Nat} (h : OwnB w B A n c xs) {b i : Nat} {v : Value} (hb : b < B) : OwnB (w.setCell ⟨b, i, none⟩ v) B A n c xs :=
  ⟨OwnC.other (h := h.1) hb, h.2⟩
theorem BlkF.to {w : World} {b n : Nat} {f g : Nat → Value} (h : BlkF w b n f) (e : f = g) : BlkF w b n g := e ▸ h
set_option maxHeartbeats 1600000 in
theorem end_any (w : World) (dp v n c i : Nat) (A : Option Addr) (dc : Nat → DcC) (h : BlkF w dp 258 (dcF v A n c dc)) (hi : i < 64) (e x : Int) :
    Calls Try.prog 71 #[.pointer (some ⟨dp, 0, none⟩), .int .i64 (i : Int), .int .i64 e, .int .i64 x] w fun e' w' => e' = .returned (.tuple #[.agg #[.bool true, .int .i64 e, .int .i64 x], .int .i64 0]) ∧ BlkF w' dp 258 (dcF v A n c (updF dc i zDc)) ∧ Off [dp] w w' := by
  have hlt := h.lt
  have j0 : (0 : Int) ≤ (i : Int) := by omega
  have j1 : (i : Int) < 64 := by omega
  have ha : Off [dp] w (w.alloc (.cells #[.bool false, .int .i64 0, .int .i64 0] 83)) := (Off.refl _ _).alloc _
  have h1 : BlkF (w.alloc (.cells #[.bool false, .int .i64 0, .int .i64 0] 83)) dp 258 (dcF v A n c dc) := h.off (S := []) ((Off.refl _ _).alloc _) (by simp)
  have k1 := BlkL.new w [.bool false, .int .i64 0, .int .i64 0] 83
  have u0 := h1.cell (2 + i * 4) (by omega)
  have u1 := h1.cell (2 + i * 4 + 1) (by omega)
  have u2 := h1.cell (2 + i * 4 + 1 + 1) (by omega)
  have u3 := h1.cell (2 + i * 4 + 1 + 1 + 1) (by omega)
  have f0 := h1.froz (2 + i * 4) (by omega)
  have f1 := h1.froz (2 + i * 4 + 1) (by omega)
  have f2 := h1.froz (2 + i * 4 + 1 + 1) (by omega)
  have f3 := h1.froz (2 + i * 4 + 1 + 1 + 1) (by omega)
  have l1 := h1.lt
  have r0 := k1.cell 0 _ rfl
  have r1 := k1.cell 1 _ rfl
  have r2 := k1.cell 2 _ rfl
  have g0 := k1.froz 0 (by simp)
  have g1 := k1.froz 1 (by simp)
  have g2 := k1.froz 2 (by simp)
  have lr := k1.lt
  have HH := Lib.hid (And.intro h1 (And.intro k1 ha))
  clear h h1 k1 ha
  generalize hwa : w.alloc (.cells #[.bool false, .int .i64 0, .int .i64 0] 83) = wa at *
  have HWA := Lib.hid hwa
  go_enter Try.func71, Try.ntmps71
  go_wp2
  obtain ⟨h1, k1, ha⟩ := HH.out
  have hne : w.heap.size ≠ dp := by omega
  have hne' : dp ≠ w.heap.size := by omega
  have hb := ((((((h1.set (2 + i * 4) (.int .u8 0) (by omega)).set (2 + i * 4 + 1) (.slice none 0 0) (by omega)).set (2 + i * 4 + 2) (.int .i64 0) (by omega)).set (2 + i * 4 + 3) (.int .i64 0) (by omega)).other w.heap.size 0 (.bool true) hne).other w.heap.size 1 (.int .i64 e) hne).other w.heap.size 2 (.int .i64 x) hne
  have hb' := hb.to (dcF_set (v := v) (n := n) (c := c) (A := A) (dc := dc) i zDc)
  have bz := ((((k1.other dp (2 + i * 4) (.int .u8 0) hne').other dp (2 + i * 4 + 1) (.slice none 0 0) hne').other dp (2 + i * 4 + 2) (.int .i64 0) hne').other dp (2 + i * 4 + 3) (.int .i64 0) hne').put3 (.bool true) (.int .i64 e) (.int .i64 x)
  have z0 := bz.cell 0 _ rfl
  have z1 := bz.cell 1 _ rfl
  have z2 := bz.cell 2 _ rfl
  have hof := (((((((ha.setCell (p := ⟨dp, 2 + i * 4, none⟩) (by simp) (.int .u8 0)).setCell (p := ⟨dp, 2 + i * 4 + 1, none⟩) (by simp) (.slice none 0 0)).setCell (p := ⟨dp, 2 + i * 4 + 2, none⟩) (by simp) (.int .i64 0)).setCell (p := ⟨dp, 2 + i * 4 + 3, none⟩) (by simp) (.int .i64 0)).setNew (p := ⟨w.heap.size, 0, none⟩) (Nat.le_refl _) (.bool true)).setNew (p := ⟨w.heap.size, 1, none⟩) (Nat.le_refl _) (.int .i64 e)).setNew (p := ⟨w.heap.size, 2, none⟩) (Nat.le_refl _) (.int .i64 x))
  clear u0 u1 u2 u3 f0 f1 f2 f3 r0 r1 r2 g0 g1 g2 bz hb
  exact bodyPost_ret (v := .tuple #[.agg #[.bool true, .int .i64 e, .int .i64 x], .int .i64 0]) (by simp [results, Try.results71, go_sem, z0, z1, z2]) rfl ⟨rfl, hb', hof⟩

/-- What is wrong with what was handed in, the document answers so too, of any shard. -/
theorem docStart_wrong (w : World) (p : Value) (who : Int) (op : Nat) (A : Option Addr) (n c : Nat) (x : Int) (h0 : rightV who op n x ≠ 0) :
    Calls Try.prog 37 #[p, .int .i64 who, .int .u8 (op : Int), .slice A n c, .int .i64 x] w fun e w' => e = .returned (.int .i64 (rightV who op n x : Nat)) ∧ w = w' := by
  have HR := Lib.hid (right_any w who op A n c x)
  have h0' : ¬ ((rightV who op n x : Nat) : Int) = 0 := by omega
  clear h0
  generalize rightV who op n x = r at *
  go_enter Try.func37, Try.ntmps37
  go_wp2_with fail
  with_reducible refine HR.out.mono ?_
  rintro e w1 ⟨rfl, hw⟩
  subst hw
  go_wp2
  go_ret
  exact ⟨rfl, rfl⟩
theorem docStart_busy (w : World) (dp : Nat) (who : Int) (op : Nat) (A : Option Addr) (n c : Nat) (x : Int) (h0 : rightV who op n x = 0) (i q : Nat) (hi : i < 64) (hwi : who = (i : Int)) (hc : w.cell? ⟨dp, 2 + i * 4, none⟩ = some (.int .u8 (q : Int))) (hq : 1 ≤ q) :
    Calls Try.prog 37 #[.pointer (some ⟨dp, 0, none⟩), .int .i64 who, .int .u8 (op : Int), .slice A n c, .int .i64 x] w fun e w' => e = .returned (.int .i64 9) ∧ w = w' := by
  have HR := Lib.hid (right_any w who op A n c x)
  rw [h0] at HR
  subst hwi
  have j0 : (0 : Int) ≤ (i : Int) := by omega
  have j1 : (i : Int) < 64 := by omega
  have j2 : ¬ (q : Int) = 0 := by omega
  clear h0
  go_enter Try.func37, Try.ntmps37
  go_wp2_with fail
  with_reducible refine HR.out.mono ?_
  rintro e w1 ⟨rfl, hw⟩
  subst hw
  go_wp2
  go_ret
  exact ⟨rfl, rfl⟩
set_option maxHeartbeats 1600000 in
theorem docStart_ok (w : World) (dp v n1 c1 : Nat) (A1 : Option Addr) (dc : Nat → DcC) (h : BlkF w dp 258 (dcF v A1 n1 c1 dc)) (who : Int) (op : Nat) (A : Option Addr) (n c : Nat) (x : Int) (h0 : rightV who op n x = 0) (i : Nat) (hi : i < 64) (hwi : who = (i : Int)) (hq : (dc i).op = 0) (B : Nat) (zs : List Nat) (ha : Arg w B A n c zs) (hB : B ≤ w.heap.size) (hn : n ≤ 256) :
    Calls Try.prog 37 #[.pointer (some ⟨dp, 0, none⟩), .int .i64 who, .int .u8 (op : Int), .slice A n c, .int .i64 x] w fun e w' => ∃ A' c', e = .returned (.int .i64 0) ∧ BlkF w' dp 258 (dcF v A1 n1 c1 (updF dc i ⟨op, A', n, c', zs, x, 0⟩)) ∧ OwnB w' w.heap.size A' n c' zs ∧ Off [dp] w w' := by
  have HR := Lib.hid (right_any w who op A n c x)
  rw [h0] at HR
  subst hwi
  have j0 : (0 : Int) ≤ (i : Int) := by omega
  have j1 : (i : Int) < 64 := by omega
  have hc : w.cell? ⟨dp, 2 + i * 4, none⟩ = some (.int .u8 0) := by rw [h.cell _ (by omega), dcF_0, hq]; rfl
  have HT := Lib.hid (twin_any w.drew B A n c zs (ha.below (Below.refl _ _).drew) hB (by omega))
  have HBK := Lib.hid (h.off (S := []) (w' := w.drew) (Off.of_below (Below.refl _ _).drew) (by simp))
  have hld := h.lt
  clear h0 ha
  go_enter Try.func37, Try.ntmps37
  go_wp2_with fail
  with_reducible refine HR.out.mono ?_
  rintro e w1 ⟨rfl, hw⟩
  subst hw
  go_wp2_with fail
  go_region_with (((with_reducible refine HT.out.mono ?_); rintro e w3 ⟨A', c', rfl, ho3, hb3⟩; have bk := HBK.out.off (S := []) (Off.of_below hb3) (by simp); have u0 := bk.cell (2 + i * 4) (by omega); have u1 := bk.cell (2 + i * 4 + 1) (by omega); have u2 := bk.cell (2 + i * 4 + 2) (by omega); have u3 := bk.cell (2 + i * 4 + 3) (by omega); have f0 := bk.froz (2 + i * 4) (by omega); have f1 := bk.froz (2 + i * 4 + 1) (by omega); have f2 := bk.froz (2 + i * 4 + 2) (by omega); have f3 := bk.froz (2 + i * 4 + 3) (by omega); have l1 := bk.lt; have HB3 := Lib.hid hb3; have HO3 := Lib.hid ho3; have BK := Lib.hid bk; clear hb3 ho3 bk))
  all_goals
    have bk := BK.out
    have hb' := ((((bk.set (2 + i * 4) (.int .u8 (op : Int)) (by omega)).set (2 + i * 4 + 1) (.slice A' n c') (by omega)).set (2 + i * 4 + 2) (.int .i64 x) (by omega)).set (2 + i * 4 + 3) (.int .i64 0) (by omega)).to (dcF_set (v := v) (n := n1) (c := c1) (A := A1) (dc := dc) i ⟨op, A', n, c', zs, x, 0⟩)
    have ho := (((HO3.out.other (b := dp) (i := 2 + i * 4) (v := .int .u8 (op : Int)) hld).other (b := dp) (i := 2 + i * 4 + 1) (v := .slice A' n c') hld).other (b := dp) (i := 2 + i * 4 + 2) (v := .int .i64 x) hld).other (b := dp) (i := 2 + i * 4 + 3) (v := .int .i64 0) hld
    have hof : Off [dp] w _ := ((((Off.of_below (S := [dp]) (Below.trans (Below.refl w.heap.size w).drew HB3.out)).setCell (p := ⟨dp, 2 + i * 4, none⟩) (by simp) (.int .u8 (op : Int))).setCell (p := ⟨dp, 2 + i * 4 + 1, none⟩) (by simp) (.slice A' n c')).setCell (p := ⟨dp, 2 + i * 4 + 2, none⟩) (by simp) (.int .i64 x)).setCell (p := ⟨dp, 2 + i * 4 + 3, none⟩) (by simp) (.int .i64 0)
    clear u0 u1 u2 u3 f0 f1 f2 f3
    go_wp2
    go_ret
    exact ⟨A', c', rfl, hb', ho, hof⟩
theorem pend14_any (w : World) (dp q i : Nat) (hi : i < 64) (hc : w.cell? ⟨dp, 2 + i * 4, none⟩ = some (.int .u8 (q : Int))) :
    Calls Try.prog 44 #[.pointer (some ⟨dp, 0, none⟩), .int .i64 (i : Int)] w fun e w' => e = .returned (.bool (q != 0)) ∧ w = w' := by
  have j0 : (0 : Int) ≤ (i : Int) := by omega
  have j1 : (i : Int) < 64 := by omega
  rcases Nat.eq_zero_or_pos q with hq | hq
  · subst hq
    go_enter Try.func44, Try.ntmps44
    go_wp2
    go_ret
    exact ⟨rfl, rfl⟩
  · have j2 : ¬ (q : Int) = 0 := by omega
    have e : (q != 0) = true := by simp; omega
    have e2 : ((q : Int) != 0) = true := by simp; omega
    rw [e]
    go_enter Try.func44, Try.ntmps44
    go_wp2
    go_ret
    exact ⟨rfl, rfl⟩
theorem pend14_bad (w : World) (p : Value) (who : Int) (hb : inB who 64 = false) (hp : ∃ dp, p = .pointer (some ⟨dp, 0, none⟩)) :
    Calls Try.prog 44 #[p, .int .i64 who] w fun e w' => e = .returned (.bool false) ∧ w = w' := by
  obtain ⟨dp, rfl⟩ := hp
  rcases inB_no hb with h | h
  · have j0 : ¬ (0 : Int) ≤ who := by omega
    clear hb
    go_enter Try.func44, Try.ntmps44
    go_wp2
    go_ret
    exact ⟨rfl, rfl⟩
  · have j0 : (0 : Int) ≤ who := by omega
    have j1 : ¬ who < 64 := by omega
    clear hb
    go_enter Try.func44, Try.ntmps44
    go_wp2
    go_ret
    exact ⟨rfl, rfl⟩
theorem same14r_any (w : World) (d : Bool) (E N : Int) :
    Calls Try.prog 41 #[.agg #[.bool d, .int .i64 E, .int .i64 N], .agg #[.bool d, .int .i64 E, .int .i64 N]] w fun e w' => e = .returned (.bool true) ∧ Below w.heap.size w w' := by
  have hb : Below w.heap.size w ((w.alloc (.cells #[.bool d, .int .i64 E, .int .i64 N] 79)).alloc (.cells #[.bool d, .int .i64 E, .int .i64 N] 83)) := ((Below.refl _ w).alloc (Nat.le_refl _) _).alloc (by simp) _
  go_enter Try.func41, Try.ntmps41
  go_wp2
  go_ret
  exact ⟨rfl, hb⟩
end Go.Proofs.Ytpjgpiiibgogeaa


/- The document's shard: DocStep by its ways. -/
namespace Go.Proofs.Ytpjgpiiibgogeaa
open Go.RowKit
set_option maxRecDepth 100000
set_option linter.unusedVariables false

theorem DocR.upd {w w' : World} {dp : Nat} {Y : List Nat} {v v' n c : Nat} {A : Option Addr} {es : List KV} {dc dc' : Nat → DcC} (h : DocR w dp Y v A n c es dc) (hf : Off [dp] w w') (hb : BlkF w' dp 258 (dcF v' A n c dc')) (hk : ∀ j, dc' j = zDc ∨ ∃ r, dc' j = { dc j with r := r }) : DocR w' dp Y v' A n c es dc' := by
  have hS : Off (dp :: Y) w w' := hf.mono (by intro x hx; simp only [List.mem_cons, List.not_mem_nil, or_false] at hx ⊢; exact .inl hx)
  refine ⟨hb, (h.ver.off (Nat.le_refl _) hS).more hS.size, h.wf, fun j hj => ?_⟩
  rcases hk j with e | ⟨r, e⟩
  · rw [e]; exact ⟨⟨rfl, Nat.le_refl 0, Nat.zero_le _, by simp, fun _ => ⟨rfl, rfl⟩, fun h => absurd h (Nat.lt_irrefl 0)⟩, Apt.nil _ _, Nat.zero_le _⟩
  · rw [e]; exact ⟨((h.key j hj).1.off (Nat.le_refl _) hS (h.key j hj).2.1).more hS.size, (h.key j hj).2⟩
theorem DocR.upd2 {w w' : World} {dp : Nat} {Y : List Nat} {v v' n c n' c' : Nat} {A A' : Option Addr} {es es' : List KV} {dc dc' : Nat → DcC} (h : DocR w dp Y v A n c es dc) (hf : Off [dp] w w') (hb : BlkF w' dp 258 (dcF v' A' n' c' dc')) (hk : ∀ j, dc' j = zDc ∨ ∃ r, dc' j = { dc j with r := r }) (hv : VerA w' w'.heap.size (dp :: Y) A' n' c' es') (hw : WfL (es'.map KV.ent)) : DocR w' dp Y v' A' n' c' es' dc' := by
  have hS : Off (dp :: Y) w w' := hf.mono (by intro x hx; simp only [List.mem_cons, List.not_mem_nil, or_false] at hx ⊢; exact .inl hx)
  refine ⟨hb, hv, hw, fun j hj => ?_⟩
  rcases hk j with e | ⟨r, e⟩
  · rw [e]; exact ⟨⟨rfl, Nat.le_refl 0, Nat.zero_le _, by simp, fun _ => ⟨rfl, rfl⟩, fun h => absurd h (Nat.lt_irrefl 0)⟩, Apt.nil _ _, Nat.zero_le _⟩
  · rw [e]; exact ⟨((h.key j hj).1.off (Nat.le_refl _) hS (h.key j hj).2.1).more hS.size, (h.key j hj).2⟩
theorem upd_z (dc : Nat → DcC) (i : Nat) : ∀ j, updF dc i zDc j = zDc ∨ ∃ r, updF dc i zDc j = { dc j with r := r } := by
  intro j
  by_cases h : j = i
  · subst h; exact .inl (updF_same _ _ _)
  · exact .inr ⟨(dc j).r, by rw [updF_other _ _ _ _ h]⟩
theorem upd_r (dc : Nat → DcC) (i r : Nat) : ∀ j, updF dc i { dc i with r := r } j = zDc ∨ ∃ r', updF dc i { dc i with r := r } j = { dc j with r := r' } := by
  intro j
  by_cases h : j = i
  · subst h; exact .inr ⟨r, updF_same _ _ _⟩
  · exact .inr ⟨(dc j).r, by rw [updF_other _ _ _ _ h]⟩
def DstEnd (w : World) (dp : Nat) (Y : List Nat) (v : Nat) (l : List Ent) (dc : Nat → DcC) (d : Bool) (E N : Int) (e : Ending) (w' : World) : Prop :=
  e = .returned (.tuple #[.agg #[.bool d, .int .i64 E, .int .i64 N], .int .i64 0]) ∧ (∃ A n c es, DocR w' dp Y v A n c es dc ∧ es.map KV.ent = l) ∧ Off [dp] w w'
set_option maxHeartbeats 6400000 in
theorem docStep_none1 (w : World) (dp : Nat) (Y : List Nat) (v n c : Nat) (A : Option Addr) (es : List KV) (dc : Nat → DcC) (h : DocR w dp Y v A n c es dc) (hY : ∀ y ∈ dp :: Y, y < w.heap.size) (i : Nat) (hi : i < 64) (op m d : Nat) (K : Option Addr) (ks : List Nat) (x : Int) (r : Nat) (hd : dc i = ⟨op, K, m, d, ks, x, r⟩) (ho1 : 1 ≤ op) (ho4 : op ≤ 4) (hop : op = 1) (hr : r = 0) (hh : hasK (es.map KV.ent) ks = false) :
    Calls Try.prog 40 #[.pointer (some ⟨dp, 0, none⟩), .int .i64 (i : Int)] w (DstEnd w dp Y v (es.map KV.ent) (updF dc i zDc) true 7 0) := by
  have hlt := h.lt
  have hl := h.ver.len
  have hl4 := h.wf.len
  rw [List.length_map, hl] at hl4
  have j0 : (0 : Int) ≤ (i : Int) := by omega
  have j1 : (i : Int) < 64 := by omega
  have j2 : (i : Int) ≤ 63 := by omega
  have jo : ¬ (op : Int) = 0 := by omega
  have hR : w.heap.size ≠ dp := by omega
  have hR' : dp ≠ w.heap.size := by omega
  have hb0 : Below w.heap.size w (w.alloc (.cells #[.bool false, .int .i64 0, .int .i64 0] 83)) := (Below.refl _ w).alloc (Nat.le_refl _) _
  have d0 := (h.below hb0).below (Below.refl _ _).drew
  have hk := d0.key i hi
  rw [hd] at hk
  simp only at hk
  have hf := find14_any _ _ _ _ _ _ _ _ _ _ _ _ d0.ver hk.1 d0.wf.srt (by omega) (Nat.le_refl _) (Nat.le_refl _)
  rw [findV, hh] at hf
  simp only [Bool.false_eq_true, if_false] at hf
  have HF := Lib.hid hf
  have D0 := Lib.hid d0
  have KR := Lib.hid (BlkL.new w [.bool false, .int .i64 0, .int .i64 0] 83)
  have HB0 := Lib.hid (hb0.drew)
  have HD := Lib.hid hd
  have c0 := d0.k0 hi
  have c1 := d0.c1
  have c2 := d0.k1 hi
  rw [hd] at c0 c2
  simp only at c0 c2
  have b0 : w.cell? ⟨dp, 2 + i * 4, none⟩ = some (.int .u8 (op : Int)) := by have := h.k0 hi; rw [hd] at this; exact this
  have hz : w.heap.size < (w.alloc (.cells #[.bool false, .int .i64 0, .int .i64 0] 83)).drew.heap.size := by simp
  have hsz : (w.alloc (.cells #[.bool false, .int .i64 0, .int .i64 0] 83)).drew.heap.size = w.heap.size + 1 := by simp
  have cl : dp < (w.alloc (.cells #[.bool false, .int .i64 0, .int .i64 0] 83)).drew.heap.size := by omega
  subst hop hr
  have H0 := Lib.hid h
  clear hb0 d0 hf h hd hk
  go_enter Try.func40, Try.ntmps40
  go_wp2_with fail
  go_region_held3 (fun W => W.cell? ⟨dp, 2 + i * 4, none⟩ = some (.int .u8 1) ∧ W.cell? ⟨dp, 1, none⟩ = some (.slice A n c) ∧ W.cell? ⟨dp, 2 + i * 4 + 1, none⟩ = some (.slice K m d)) (go_keep) (((with_reducible refine (HF.out).mono ?_); rintro e w1 ⟨rfl, hb1⟩; have d1 := D0.out.below hb1; have kr := KR.out.drew.below hb1; have hbw := HB0.out.trans (hb1.mono (Nat.le_of_lt hz)); clear c0 c1 c2 cl; have c0 := d1.c0; have c1 := d1.c1; have k0 := d1.k0 hi; have k1 := d1.k1 hi; have k2 := d1.k2 hi; have k3 := d1.k3 hi; rw [HD.out] at k0 k1 k2 k3; simp only at k0 k1 k2 k3; have f0 := d1.fr (i := 0) (by omega); have f1 := d1.fr (i := 1) (by omega); have f3 := d1.fr (i := 2 + i * 4 + 3) (by omega); have cl := d1.lt; have r0 := kr.cell 0 _ rfl; have r1 := kr.cell 1 _ rfl; have r2 := kr.cell 2 _ rfl; have g0 := kr.froz 0 (by simp); have g1 := kr.froz 1 (by simp); have g2 := kr.froz 2 (by simp); have lr := kr.lt; have D1 := Lib.hid d1; have KR1 := Lib.hid kr; have HB1 := Lib.hid hbw; clear hb1 d1 kr hbw))
  all_goals
    have HE := Lib.hid (end_any w1 dp v n c i A dc D1.out.blk hi (7) (0))
    go_wp2_with fail
    with_reducible refine HE.out.mono ?_
    rintro e w2 ⟨rfl, hb2, hf2⟩
    have kr2 := KR1.out.off hf2 (by simpa using hR)
    have of2 := (Off.of_below (S := [dp]) HB1.out).trans hf2
    have HX := Lib.hid (And.intro hb2 (And.intro kr2 of2))
    clear r0 r1 r2 g0 g1 g2 lr
    have r0 := kr2.cell 0 _ rfl
    have r1 := kr2.cell 1 _ rfl
    have r2 := kr2.cell 2 _ rfl
    have g0 := kr2.froz 0 (by simp)
    have g1 := kr2.froz 1 (by simp)
    have g2 := kr2.froz 2 (by simp)
    have lr := kr2.lt
    clear hb2 hf2 kr2 of2 HE
    go_wp2
    clear c0 c1 k0 k1 k2 k3 f0 f1 f3 r0 r1 r2 g0 g1 g2
    have bz := (HX.out.2.1).put3 (.bool true) (.int .i64 (7)) (.int .i64 (0))
    have z0 := bz.cell 0 _ rfl
    have z1 := bz.cell 1 _ rfl
    have z2 := bz.cell 2 _ rfl
    have bk := (((HX.out.1).other w.heap.size 0 (.bool true) hR).other w.heap.size 1 (.int .i64 (7)) hR).other w.heap.size 2 (.int .i64 (0)) hR
    have ofz := (((HX.out.2.2).setNew (p := ⟨w.heap.size, 0, none⟩) (Nat.le_refl _) (.bool true)).setNew (p := ⟨w.heap.size, 1, none⟩) (Nat.le_refl _) (.int .i64 (7))).setNew (p := ⟨w.heap.size, 2, none⟩) (Nat.le_refl _) (.int .i64 (0))
    have dz := (H0.out).upd ofz bk (upd_z dc i)
    clear bz bk
    exact bodyPost_ret (v := .tuple #[.agg #[.bool true, .int .i64 (7), .int .i64 (0)], .int .i64 0]) (by simp [results, Try.results40, go_sem, z0, z1, z2]) rfl ⟨rfl, ⟨_, _, _, _, dz, rfl⟩, ofz⟩
set_option maxHeartbeats 6400000 in
theorem docStep_none4 (w : World) (dp : Nat) (Y : List Nat) (v n c : Nat) (A : Option Addr) (es : List KV) (dc : Nat → DcC) (h : DocR w dp Y v A n c es dc) (hY : ∀ y ∈ dp :: Y, y < w.heap.size) (i : Nat) (hi : i < 64) (op m d : Nat) (K : Option Addr) (ks : List Nat) (x : Int) (r : Nat) (hd : dc i = ⟨op, K, m, d, ks, x, r⟩) (ho1 : 1 ≤ op) (ho4 : op ≤ 4) (hop : op = 4) (hr : r = 0) (hh : hasK (es.map KV.ent) ks = false) :
    Calls Try.prog 40 #[.pointer (some ⟨dp, 0, none⟩), .int .i64 (i : Int)] w (DstEnd w dp Y v (es.map KV.ent) (updF dc i zDc) true 7 0) := by
  have hlt := h.lt
  have hl := h.ver.len
  have hl4 := h.wf.len
  rw [List.length_map, hl] at hl4
  have j0 : (0 : Int) ≤ (i : Int) := by omega
  have j1 : (i : Int) < 64 := by omega
  have j2 : (i : Int) ≤ 63 := by omega
  have jo : ¬ (op : Int) = 0 := by omega
  have hR : w.heap.size ≠ dp := by omega
  have hR' : dp ≠ w.heap.size := by omega
  have hb0 : Below w.heap.size w (w.alloc (.cells #[.bool false, .int .i64 0, .int .i64 0] 83)) := (Below.refl _ w).alloc (Nat.le_refl _) _
  have d0 := (h.below hb0).below (Below.refl _ _).drew
  have hk := d0.key i hi
  rw [hd] at hk
  simp only at hk
  have hf := find14_any _ _ _ _ _ _ _ _ _ _ _ _ d0.ver hk.1 d0.wf.srt (by omega) (Nat.le_refl _) (Nat.le_refl _)
  rw [findV, hh] at hf
  simp only [Bool.false_eq_true, if_false] at hf
  have HF := Lib.hid hf
  have D0 := Lib.hid d0
  have KR := Lib.hid (BlkL.new w [.bool false, .int .i64 0, .int .i64 0] 83)
  have HB0 := Lib.hid (hb0.drew)
  have HD := Lib.hid hd
  have c0 := d0.k0 hi
  have c1 := d0.c1
  have c2 := d0.k1 hi
  rw [hd] at c0 c2
  simp only at c0 c2
  have b0 : w.cell? ⟨dp, 2 + i * 4, none⟩ = some (.int .u8 (op : Int)) := by have := h.k0 hi; rw [hd] at this; exact this
  have hz : w.heap.size < (w.alloc (.cells #[.bool false, .int .i64 0, .int .i64 0] 83)).drew.heap.size := by simp
  have hsz : (w.alloc (.cells #[.bool false, .int .i64 0, .int .i64 0] 83)).drew.heap.size = w.heap.size + 1 := by simp
  have cl : dp < (w.alloc (.cells #[.bool false, .int .i64 0, .int .i64 0] 83)).drew.heap.size := by omega
  subst hop hr
  have H0 := Lib.hid h
  clear hb0 d0 hf h hd hk
  go_enter Try.func40, Try.ntmps40
  go_wp2_with fail
  go_region_held3 (fun W => W.cell? ⟨dp, 2 + i * 4, none⟩ = some (.int .u8 4) ∧ W.cell? ⟨dp, 1, none⟩ = some (.slice A n c) ∧ W.cell? ⟨dp, 2 + i * 4 + 1, none⟩ = some (.slice K m d)) (go_keep) (((with_reducible refine (HF.out).mono ?_); rintro e w1 ⟨rfl, hb1⟩; have d1 := D0.out.below hb1; have kr := KR.out.drew.below hb1; have hbw := HB0.out.trans (hb1.mono (Nat.le_of_lt hz)); clear c0 c1 c2 cl; have c0 := d1.c0; have c1 := d1.c1; have k0 := d1.k0 hi; have k1 := d1.k1 hi; have k2 := d1.k2 hi; have k3 := d1.k3 hi; rw [HD.out] at k0 k1 k2 k3; simp only at k0 k1 k2 k3; have f0 := d1.fr (i := 0) (by omega); have f1 := d1.fr (i := 1) (by omega); have f3 := d1.fr (i := 2 + i * 4 + 3) (by omega); have cl := d1.lt; have r0 := kr.cell 0 _ rfl; have r1 := kr.cell 1 _ rfl; have r2 := kr.cell 2 _ rfl; have g0 := kr.froz 0 (by simp); have g1 := kr.froz 1 (by simp); have g2 := kr.froz 2 (by simp); have lr := kr.lt; have D1 := Lib.hid d1; have KR1 := Lib.hid kr; have HB1 := Lib.hid hbw; clear hb1 d1 kr hbw))
  all_goals
    have HE := Lib.hid (end_any w1 dp v n c i A dc D1.out.blk hi (7) (0))
    go_wp2_with fail
    with_reducible refine HE.out.mono ?_
    rintro e w2 ⟨rfl, hb2, hf2⟩
    have kr2 := KR1.out.off hf2 (by simpa using hR)
    have of2 := (Off.of_below (S := [dp]) HB1.out).trans hf2
    have HX := Lib.hid (And.intro hb2 (And.intro kr2 of2))
    clear r0 r1 r2 g0 g1 g2 lr
    have r0 := kr2.cell 0 _ rfl
    have r1 := kr2.cell 1 _ rfl
    have r2 := kr2.cell 2 _ rfl
    have g0 := kr2.froz 0 (by simp)
    have g1 := kr2.froz 1 (by simp)
    have g2 := kr2.froz 2 (by simp)
    have lr := kr2.lt
    clear hb2 hf2 kr2 of2 HE
    go_wp2
    clear c0 c1 k0 k1 k2 k3 f0 f1 f3 r0 r1 r2 g0 g1 g2
    have bz := (HX.out.2.1).put3 (.bool true) (.int .i64 (7)) (.int .i64 (0))
    have z0 := bz.cell 0 _ rfl
    have z1 := bz.cell 1 _ rfl
    have z2 := bz.cell 2 _ rfl
    have bk := (((HX.out.1).other w.heap.size 0 (.bool true) hR).other w.heap.size 1 (.int .i64 (7)) hR).other w.heap.size 2 (.int .i64 (0)) hR
    have ofz := (((HX.out.2.2).setNew (p := ⟨w.heap.size, 0, none⟩) (Nat.le_refl _) (.bool true)).setNew (p := ⟨w.heap.size, 1, none⟩) (Nat.le_refl _) (.int .i64 (7))).setNew (p := ⟨w.heap.size, 2, none⟩) (Nat.le_refl _) (.int .i64 (0))
    have dz := (H0.out).upd ofz bk (upd_z dc i)
    clear bz bk
    exact bodyPost_ret (v := .tuple #[.agg #[.bool true, .int .i64 (7), .int .i64 (0)], .int .i64 0]) (by simp [results, Try.results40, go_sem, z0, z1, z2]) rfl ⟨rfl, ⟨_, _, _, _, dz, rfl⟩, ofz⟩
set_option maxHeartbeats 6400000 in
theorem docStep_full2 (w : World) (dp : Nat) (Y : List Nat) (v n c : Nat) (A : Option Addr) (es : List KV) (dc : Nat → DcC) (h : DocR w dp Y v A n c es dc) (hY : ∀ y ∈ dp :: Y, y < w.heap.size) (i : Nat) (hi : i < 64) (op m d : Nat) (K : Option Addr) (ks : List Nat) (x : Int) (r : Nat) (hd : dc i = ⟨op, K, m, d, ks, x, r⟩) (ho1 : 1 ≤ op) (ho4 : op ≤ 4) (hop : op = 2) (hr : r = 0) (hh : hasK (es.map KV.ent) ks = false) (hn : 4096 ≤ n) :
    Calls Try.prog 40 #[.pointer (some ⟨dp, 0, none⟩), .int .i64 (i : Int)] w (DstEnd w dp Y v (es.map KV.ent) (updF dc i zDc) true 10 0) := by
  have hlt := h.lt
  have hl := h.ver.len
  have hl4 := h.wf.len
  rw [List.length_map, hl] at hl4
  have j0 : (0 : Int) ≤ (i : Int) := by omega
  have j1 : (i : Int) < 64 := by omega
  have j2 : (i : Int) ≤ 63 := by omega
  have jo : ¬ (op : Int) = 0 := by omega
  have hR : w.heap.size ≠ dp := by omega
  have hR' : dp ≠ w.heap.size := by omega
  have hb0 : Below w.heap.size w (w.alloc (.cells #[.bool false, .int .i64 0, .int .i64 0] 83)) := (Below.refl _ w).alloc (Nat.le_refl _) _
  have d0 := (h.below hb0).below (Below.refl _ _).drew
  have hk := d0.key i hi
  rw [hd] at hk
  simp only at hk
  have hf := find14_any _ _ _ _ _ _ _ _ _ _ _ _ d0.ver hk.1 d0.wf.srt (by omega) (Nat.le_refl _) (Nat.le_refl _)
  rw [findV, hh] at hf
  simp only [Bool.false_eq_true, if_false] at hf
  have HF := Lib.hid hf
  have D0 := Lib.hid d0
  have KR := Lib.hid (BlkL.new w [.bool false, .int .i64 0, .int .i64 0] 83)
  have HB0 := Lib.hid (hb0.drew)
  have HD := Lib.hid hd
  have c0 := d0.k0 hi
  have c1 := d0.c1
  have c2 := d0.k1 hi
  rw [hd] at c0 c2
  simp only at c0 c2
  have b0 : w.cell? ⟨dp, 2 + i * 4, none⟩ = some (.int .u8 (op : Int)) := by have := h.k0 hi; rw [hd] at this; exact this
  have hz : w.heap.size < (w.alloc (.cells #[.bool false, .int .i64 0, .int .i64 0] 83)).drew.heap.size := by simp
  have hsz : (w.alloc (.cells #[.bool false, .int .i64 0, .int .i64 0] 83)).drew.heap.size = w.heap.size + 1 := by simp
  have cl : dp < (w.alloc (.cells #[.bool false, .int .i64 0, .int .i64 0] 83)).drew.heap.size := by omega
  subst hop hr
  have jn : (4096 : Int) ≤ (n : Int) := by omega
  have H0 := Lib.hid h
  clear hb0 d0 hf h hd hk
  go_enter Try.func40, Try.ntmps40
  go_wp2_with fail
  go_region_held3 (fun W => W.cell? ⟨dp, 2 + i * 4, none⟩ = some (.int .u8 2) ∧ W.cell? ⟨dp, 1, none⟩ = some (.slice A n c) ∧ W.cell? ⟨dp, 2 + i * 4 + 1, none⟩ = some (.slice K m d)) (go_keep) (((with_reducible refine (HF.out).mono ?_); rintro e w1 ⟨rfl, hb1⟩; have d1 := D0.out.below hb1; have kr := KR.out.drew.below hb1; have hbw := HB0.out.trans (hb1.mono (Nat.le_of_lt hz)); clear c0 c1 c2 cl; have c0 := d1.c0; have c1 := d1.c1; have k0 := d1.k0 hi; have k1 := d1.k1 hi; have k2 := d1.k2 hi; have k3 := d1.k3 hi; rw [HD.out] at k0 k1 k2 k3; simp only at k0 k1 k2 k3; have f0 := d1.fr (i := 0) (by omega); have f1 := d1.fr (i := 1) (by omega); have f3 := d1.fr (i := 2 + i * 4 + 3) (by omega); have cl := d1.lt; have r0 := kr.cell 0 _ rfl; have r1 := kr.cell 1 _ rfl; have r2 := kr.cell 2 _ rfl; have g0 := kr.froz 0 (by simp); have g1 := kr.froz 1 (by simp); have g2 := kr.froz 2 (by simp); have lr := kr.lt; have D1 := Lib.hid d1; have KR1 := Lib.hid kr; have HB1 := Lib.hid hbw; clear hb1 d1 kr hbw))
  all_goals
    have HE := Lib.hid (end_any w1 dp v n c i A dc D1.out.blk hi (10) (0))
    go_wp2_with fail
    with_reducible refine HE.out.mono ?_
    rintro e w2 ⟨rfl, hb2, hf2⟩
    have kr2 := KR1.out.off hf2 (by simpa using hR)
    have of2 := (Off.of_below (S := [dp]) HB1.out).trans hf2
    have HX := Lib.hid (And.intro hb2 (And.intro kr2 of2))
    clear r0 r1 r2 g0 g1 g2 lr
    have r0 := kr2.cell 0 _ rfl
    have r1 := kr2.cell 1 _ rfl
    have r2 := kr2.cell 2 _ rfl
    have g0 := kr2.froz 0 (by simp)
    have g1 := kr2.froz 1 (by simp)
    have g2 := kr2.froz 2 (by simp)
    have lr := kr2.lt
    clear hb2 hf2 kr2 of2 HE
    go_wp2
    clear c0 c1 k0 k1 k2 k3 f0 f1 f3 r0 r1 r2 g0 g1 g2
    have bz := (HX.out.2.1).put3 (.bool true) (.int .i64 (10)) (.int .i64 (0))
    have z0 := bz.cell 0 _ rfl
    have z1 := bz.cell 1 _ rfl
    have z2 := bz.cell 2 _ rfl
    have bk := (((HX.out.1).other w.heap.size 0 (.bool true) hR).other w.heap.size 1 (.int .i64 (10)) hR).other w.heap.size 2 (.int .i64 (0)) hR
    have ofz := (((HX.out.2.2).setNew (p := ⟨w.heap.size, 0, none⟩) (Nat.le_refl _) (.bool true)).setNew (p := ⟨w.heap.size, 1, none⟩) (Nat.le_refl _) (.int .i64 (10))).setNew (p := ⟨w.heap.size, 2, none⟩) (Nat.le_refl _) (.int .i64 (0))
    have dz := (H0.out).upd ofz bk (upd_z dc i)
    clear bz bk
    exact bodyPost_ret (v := .tuple #[.agg #[.bool true, .int .i64 (10), .int .i64 (0)], .int .i64 0]) (by simp [results, Try.results40, go_sem, z0, z1, z2]) rfl ⟨rfl, ⟨_, _, _, _, dz, rfl⟩, ofz⟩
set_option maxHeartbeats 6400000 in
theorem docStep_full3 (w : World) (dp : Nat) (Y : List Nat) (v n c : Nat) (A : Option Addr) (es : List KV) (dc : Nat → DcC) (h : DocR w dp Y v A n c es dc) (hY : ∀ y ∈ dp :: Y, y < w.heap.size) (i : Nat) (hi : i < 64) (op m d : Nat) (K : Option Addr) (ks : List Nat) (x : Int) (r : Nat) (hd : dc i = ⟨op, K, m, d, ks, x, r⟩) (ho1 : 1 ≤ op) (ho4 : op ≤ 4) (hop : op = 3) (hr : r = 0) (hh : hasK (es.map KV.ent) ks = false) (hn : 4096 ≤ n) :
    Calls Try.prog 40 #[.pointer (some ⟨dp, 0, none⟩), .int .i64 (i : Int)] w (DstEnd w dp Y v (es.map KV.ent) (updF dc i zDc) true 10 0) := by
  have hlt := h.lt
  have hl := h.ver.len
  have hl4 := h.wf.len
  rw [List.length_map, hl] at hl4
  have j0 : (0 : Int) ≤ (i : Int) := by omega
  have j1 : (i : Int) < 64 := by omega
  have j2 : (i : Int) ≤ 63 := by omega
  have jo : ¬ (op : Int) = 0 := by omega
  have hR : w.heap.size ≠ dp := by omega
  have hR' : dp ≠ w.heap.size := by omega
  have hb0 : Below w.heap.size w (w.alloc (.cells #[.bool false, .int .i64 0, .int .i64 0] 83)) := (Below.refl _ w).alloc (Nat.le_refl _) _
  have d0 := (h.below hb0).below (Below.refl _ _).drew
  have hk := d0.key i hi
  rw [hd] at hk
  simp only at hk
  have hf := find14_any _ _ _ _ _ _ _ _ _ _ _ _ d0.ver hk.1 d0.wf.srt (by omega) (Nat.le_refl _) (Nat.le_refl _)
  rw [findV, hh] at hf
  simp only [Bool.false_eq_true, if_false] at hf
  have HF := Lib.hid hf
  have D0 := Lib.hid d0
  have KR := Lib.hid (BlkL.new w [.bool false, .int .i64 0, .int .i64 0] 83)
  have HB0 := Lib.hid (hb0.drew)
  have HD := Lib.hid hd
  have c0 := d0.k0 hi
  have c1 := d0.c1
  have c2 := d0.k1 hi
  rw [hd] at c0 c2
  simp only at c0 c2
  have b0 : w.cell? ⟨dp, 2 + i * 4, none⟩ = some (.int .u8 (op : Int)) := by have := h.k0 hi; rw [hd] at this; exact this
  have hz : w.heap.size < (w.alloc (.cells #[.bool false, .int .i64 0, .int .i64 0] 83)).drew.heap.size := by simp
  have hsz : (w.alloc (.cells #[.bool false, .int .i64 0, .int .i64 0] 83)).drew.heap.size = w.heap.size + 1 := by simp
  have cl : dp < (w.alloc (.cells #[.bool false, .int .i64 0, .int .i64 0] 83)).drew.heap.size := by omega
  subst hop hr
  have jn : (4096 : Int) ≤ (n : Int) := by omega
  have H0 := Lib.hid h
  clear hb0 d0 hf h hd hk
  go_enter Try.func40, Try.ntmps40
  go_wp2_with fail
  go_region_held3 (fun W => W.cell? ⟨dp, 2 + i * 4, none⟩ = some (.int .u8 3) ∧ W.cell? ⟨dp, 1, none⟩ = some (.slice A n c) ∧ W.cell? ⟨dp, 2 + i * 4 + 1, none⟩ = some (.slice K m d)) (go_keep) (((with_reducible refine (HF.out).mono ?_); rintro e w1 ⟨rfl, hb1⟩; have d1 := D0.out.below hb1; have kr := KR.out.drew.below hb1; have hbw := HB0.out.trans (hb1.mono (Nat.le_of_lt hz)); clear c0 c1 c2 cl; have c0 := d1.c0; have c1 := d1.c1; have k0 := d1.k0 hi; have k1 := d1.k1 hi; have k2 := d1.k2 hi; have k3 := d1.k3 hi; rw [HD.out] at k0 k1 k2 k3; simp only at k0 k1 k2 k3; have f0 := d1.fr (i := 0) (by omega); have f1 := d1.fr (i := 1) (by omega); have f3 := d1.fr (i := 2 + i * 4 + 3) (by omega); have cl := d1.lt; have r0 := kr.cell 0 _ rfl; have r1 := kr.cell 1 _ rfl; have r2 := kr.cell 2 _ rfl; have g0 := kr.froz 0 (by simp); have g1 := kr.froz 1 (by simp); have g2 := kr.froz 2 (by simp); have lr := kr.lt; have D1 := Lib.hid d1; have KR1 := Lib.hid kr; have HB1 := Lib.hid hbw; clear hb1 d1 kr hbw))
  all_goals
    have HE := Lib.hid (end_any w1 dp v n c i A dc D1.out.blk hi (10) (0))
    go_wp2_with fail
    with_reducible refine HE.out.mono ?_
    rintro e w2 ⟨rfl, hb2, hf2⟩
    have kr2 := KR1.out.off hf2 (by simpa using hR)
    have of2 := (Off.of_below (S := [dp]) HB1.out).trans hf2
    have HX := Lib.hid (And.intro hb2 (And.intro kr2 of2))
    clear r0 r1 r2 g0 g1 g2 lr
    have r0 := kr2.cell 0 _ rfl
    have r1 := kr2.cell 1 _ rfl
    have r2 := kr2.cell 2 _ rfl
    have g0 := kr2.froz 0 (by simp)
    have g1 := kr2.froz 1 (by simp)
    have g2 := kr2.froz 2 (by simp)
    have lr := kr2.lt
    clear hb2 hf2 kr2 of2 HE
    go_wp2
    clear c0 c1 k0 k1 k2 k3 f0 f1 f3 r0 r1 r2 g0 g1 g2
    have bz := (HX.out.2.1).put3 (.bool true) (.int .i64 (10)) (.int .i64 (0))
    have z0 := bz.cell 0 _ rfl
    have z1 := bz.cell 1 _ rfl
    have z2 := bz.cell 2 _ rfl
    have bk := (((HX.out.1).other w.heap.size 0 (.bool true) hR).other w.heap.size 1 (.int .i64 (10)) hR).other w.heap.size 2 (.int .i64 (0)) hR
    have ofz := (((HX.out.2.2).setNew (p := ⟨w.heap.size, 0, none⟩) (Nat.le_refl _) (.bool true)).setNew (p := ⟨w.heap.size, 1, none⟩) (Nat.le_refl _) (.int .i64 (10))).setNew (p := ⟨w.heap.size, 2, none⟩) (Nat.le_refl _) (.int .i64 (0))
    have dz := (H0.out).upd ofz bk (upd_z dc i)
    clear bz bk
    exact bodyPost_ret (v := .tuple #[.agg #[.bool true, .int .i64 (10), .int .i64 (0)], .int .i64 0]) (by simp [results, Try.results40, go_sem, z0, z1, z2]) rfl ⟨rfl, ⟨_, _, _, _, dz, rfl⟩, ofz⟩
set_option maxHeartbeats 6400000 in
theorem docStep_get (w : World) (dp : Nat) (Y : List Nat) (v n c : Nat) (A : Option Addr) (es : List KV) (dc : Nat → DcC) (h : DocR w dp Y v A n c es dc) (hY : ∀ y ∈ dp :: Y, y < w.heap.size) (i : Nat) (hi : i < 64) (op m d : Nat) (K : Option Addr) (ks : List Nat) (x : Int) (r : Nat) (hd : dc i = ⟨op, K, m, d, ks, x, r⟩) (ho1 : 1 ≤ op) (ho4 : op ≤ 4) (hop : op = 1) (hr : r = 0) (hh : hasK (es.map KV.ent) ks = true) :
    Calls Try.prog 40 #[.pointer (some ⟨dp, 0, none⟩), .int .i64 (i : Int)] w (DstEnd w dp Y v (es.map KV.ent) (updF dc i zDc) true 0 ((es.map KV.ent).getD (plK (es.map KV.ent) ks) noE).2) := by
  have hlt := h.lt
  have hl := h.ver.len
  have hl4 := h.wf.len
  rw [List.length_map, hl] at hl4
  have j0 : (0 : Int) ≤ (i : Int) := by omega
  have j1 : (i : Int) < 64 := by omega
  have j2 : (i : Int) ≤ 63 := by omega
  have jo : ¬ (op : Int) = 0 := by omega
  have hR : w.heap.size ≠ dp := by omega
  have hR' : dp ≠ w.heap.size := by omega
  have hb0 : Below w.heap.size w (w.alloc (.cells #[.bool false, .int .i64 0, .int .i64 0] 83)) := (Below.refl _ w).alloc (Nat.le_refl _) _
  have d0 := (h.below hb0).below (Below.refl _ _).drew
  have hk := d0.key i hi
  rw [hd] at hk
  simp only at hk
  have hf := find14_any _ _ _ _ _ _ _ _ _ _ _ _ d0.ver hk.1 d0.wf.srt (by omega) (Nat.le_refl _) (Nat.le_refl _)
  rw [findV, hh] at hf
  simp only [if_true] at hf
  have HF := Lib.hid hf
  have D0 := Lib.hid d0
  have KR := Lib.hid (BlkL.new w [.bool false, .int .i64 0, .int .i64 0] 83)
  have HB0 := Lib.hid (hb0.drew)
  have HD := Lib.hid hd
  have c0 := d0.k0 hi
  have c1 := d0.c1
  have c2 := d0.k1 hi
  rw [hd] at c0 c2
  simp only at c0 c2
  have b0 : w.cell? ⟨dp, 2 + i * 4, none⟩ = some (.int .u8 (op : Int)) := by have := h.k0 hi; rw [hd] at this; exact this
  have hz : w.heap.size < (w.alloc (.cells #[.bool false, .int .i64 0, .int .i64 0] 83)).drew.heap.size := by simp
  have hsz : (w.alloc (.cells #[.bool false, .int .i64 0, .int .i64 0] 83)).drew.heap.size = w.heap.size + 1 := by simp
  have cl : dp < (w.alloc (.cells #[.bool false, .int .i64 0, .int .i64 0] 83)).drew.heap.size := by omega
  subst hop hr
  have H0 := Lib.hid h
  have hent := ent_at es (plK (es.map KV.ent) ks) (by rw [hl]; have := (has_key hh).1; rw [List.length_map, hl] at this; exact this)
  rw [hent]
  simp only
  clear hent
  obtain ⟨hp0, _⟩ := has_key hh
  rw [List.length_map, hl] at hp0
  generalize hpp : plK (es.map KV.ent) ks = p at *
  have HPP := Lib.hid hpp
  have j3 : (0 : Int) ≤ (p : Int) := by omega
  have j4 : ¬ (p : Int) < 0 := by omega
  have j5 : (p : Int) < (n : Int) := by omega
  clear hpp
  have hc5 := fun (W : World) (D : DocR W dp Y v A n c es dc) => D.ver.at_ hp0
  have HC5 := Lib.hid hc5
  clear hc5
  clear hb0 d0 hf h hd hk
  go_enter Try.func40, Try.ntmps40
  go_wp2_with fail
  go_region_held3 (fun W => W.cell? ⟨dp, 2 + i * 4, none⟩ = some (.int .u8 1) ∧ W.cell? ⟨dp, 1, none⟩ = some (.slice A n c) ∧ W.cell? ⟨dp, 2 + i * 4 + 1, none⟩ = some (.slice K m d)) (go_keep) (((with_reducible refine (HF.out).mono ?_); rintro e w1 ⟨rfl, hb1⟩; have d1 := D0.out.below hb1; have kr := KR.out.drew.below hb1; have hbw := HB0.out.trans (hb1.mono (Nat.le_of_lt hz)); clear c0 c1 c2 cl; have c0 := d1.c0; have c1 := d1.c1; have k0 := d1.k0 hi; have k1 := d1.k1 hi; have k2 := d1.k2 hi; have k3 := d1.k3 hi; rw [HD.out] at k0 k1 k2 k3; simp only at k0 k1 k2 k3; have f0 := d1.fr (i := 0) (by omega); have f1 := d1.fr (i := 1) (by omega); have f3 := d1.fr (i := 2 + i * 4 + 3) (by omega); have cl := d1.lt; have r0 := kr.cell 0 _ rfl; have r1 := kr.cell 1 _ rfl; have r2 := kr.cell 2 _ rfl; have g0 := kr.froz 0 (by simp); have g1 := kr.froz 1 (by simp); have g2 := kr.froz 2 (by simp); have lr := kr.lt; have D1 := Lib.hid d1; have KR1 := Lib.hid kr; have HB1 := Lib.hid hbw; clear hb1 d1 kr hbw))
  all_goals
    obtain ⟨g, off, eA, hgB, hc0, hc1⟩ := HC5.out _ D1.out
    generalize es.getD p noKV = en at *
    subst eA
    clear hc0
    have HE := Lib.hid (end_any w1 dp v n c i _ dc D1.out.blk hi (0) (en.v))
    go_wp2_with fail
    with_reducible refine HE.out.mono ?_
    rintro e w2 ⟨rfl, hb2, hf2⟩
    have kr2 := KR1.out.off hf2 (by simpa using hR)
    have of2 := (Off.of_below (S := [dp]) HB1.out).trans hf2
    have HX := Lib.hid (And.intro hb2 (And.intro kr2 of2))
    clear r0 r1 r2 g0 g1 g2 lr
    have r0 := kr2.cell 0 _ rfl
    have r1 := kr2.cell 1 _ rfl
    have r2 := kr2.cell 2 _ rfl
    have g0 := kr2.froz 0 (by simp)
    have g1 := kr2.froz 1 (by simp)
    have g2 := kr2.froz 2 (by simp)
    have lr := kr2.lt
    clear hb2 hf2 kr2 of2 HE
    go_wp2
    clear c0 c1 k0 k1 k2 k3 f0 f1 f3 r0 r1 r2 g0 g1 g2
    have bz := (HX.out.2.1).put3 (.bool true) (.int .i64 (0)) (.int .i64 (en.v))
    have z0 := bz.cell 0 _ rfl
    have z1 := bz.cell 1 _ rfl
    have z2 := bz.cell 2 _ rfl
    have bk := (((HX.out.1).other w.heap.size 0 (.bool true) hR).other w.heap.size 1 (.int .i64 (0)) hR).other w.heap.size 2 (.int .i64 (en.v)) hR
    have ofz := (((HX.out.2.2).setNew (p := ⟨w.heap.size, 0, none⟩) (Nat.le_refl _) (.bool true)).setNew (p := ⟨w.heap.size, 1, none⟩) (Nat.le_refl _) (.int .i64 (0))).setNew (p := ⟨w.heap.size, 2, none⟩) (Nat.le_refl _) (.int .i64 (en.v))
    have dz := (H0.out).upd ofz bk (upd_z dc i)
    clear bz bk
    exact bodyPost_ret (v := .tuple #[.agg #[.bool true, .int .i64 (0), .int .i64 (en.v)], .int .i64 0]) (by simp [results, Try.results40, go_sem, z0, z1, z2]) rfl ⟨rfl, ⟨_, _, _, _, dz, rfl⟩, ofz⟩
set_option maxHeartbeats 6400000 in
theorem docStep_readA (w : World) (dp : Nat) (Y : List Nat) (v n c : Nat) (A : Option Addr) (es : List KV) (dc : Nat → DcC) (h : DocR w dp Y v A n c es dc) (hY : ∀ y ∈ dp :: Y, y < w.heap.size) (i : Nat) (hi : i < 64) (op m d : Nat) (K : Option Addr) (ks : List Nat) (x : Int) (r : Nat) (hd : dc i = ⟨op, K, m, d, ks, x, r⟩) (ho1 : 1 ≤ op) (ho4 : op ≤ 4) (hop : op ≠ 1) (hr : r = 0) (hh : hasK (es.map KV.ent) ks = true) :
    Calls Try.prog 40 #[.pointer (some ⟨dp, 0, none⟩), .int .i64 (i : Int)] w (DstEnd w dp Y v (es.map KV.ent) (updF dc i { dc i with r := v }) false 0 0) := by
  have hlt := h.lt
  have hl := h.ver.len
  have hl4 := h.wf.len
  rw [List.length_map, hl] at hl4
  have j0 : (0 : Int) ≤ (i : Int) := by omega
  have j1 : (i : Int) < 64 := by omega
  have j2 : (i : Int) ≤ 63 := by omega
  have jo : ¬ (op : Int) = 0 := by omega
  have hR : w.heap.size ≠ dp := by omega
  have hR' : dp ≠ w.heap.size := by omega
  have hb0 : Below w.heap.size w (w.alloc (.cells #[.bool false, .int .i64 0, .int .i64 0] 83)) := (Below.refl _ w).alloc (Nat.le_refl _) _
  have d0 := (h.below hb0).below (Below.refl _ _).drew
  have hk := d0.key i hi
  rw [hd] at hk
  simp only at hk
  have hf := find14_any _ _ _ _ _ _ _ _ _ _ _ _ d0.ver hk.1 d0.wf.srt (by omega) (Nat.le_refl _) (Nat.le_refl _)
  rw [findV, hh] at hf
  simp only [if_true] at hf
  have HF := Lib.hid hf
  have D0 := Lib.hid d0
  have KR := Lib.hid (BlkL.new w [.bool false, .int .i64 0, .int .i64 0] 83)
  have HB0 := Lib.hid (hb0.drew)
  have HD := Lib.hid hd
  have c0 := d0.k0 hi
  have c1 := d0.c1
  have c2 := d0.k1 hi
  rw [hd] at c0 c2
  simp only at c0 c2
  have b0 : w.cell? ⟨dp, 2 + i * 4, none⟩ = some (.int .u8 (op : Int)) := by have := h.k0 hi; rw [hd] at this; exact this
  have hz : w.heap.size < (w.alloc (.cells #[.bool false, .int .i64 0, .int .i64 0] 83)).drew.heap.size := by simp
  have hsz : (w.alloc (.cells #[.bool false, .int .i64 0, .int .i64 0] 83)).drew.heap.size = w.heap.size + 1 := by simp
  have cl : dp < (w.alloc (.cells #[.bool false, .int .i64 0, .int .i64 0] 83)).drew.heap.size := by omega
  subst hr
  have H0 := Lib.hid h
  have jo1 : ¬ (op : Int) = 1 := by omega
  obtain ⟨hp0, _⟩ := has_key hh
  rw [List.length_map, hl] at hp0
  generalize hpp : plK (es.map KV.ent) ks = p at *
  have HPP := Lib.hid hpp
  have j3 : (0 : Int) ≤ (p : Int) := by omega
  have j4 : ¬ (p : Int) < 0 := by omega
  have j5 : (p : Int) < (n : Int) := by omega
  clear hpp
  clear hb0 d0 hf h hd hk
  go_enter Try.func40, Try.ntmps40
  go_wp2_with fail
  go_region_held3 (fun W => W.cell? ⟨dp, 2 + i * 4, none⟩ = some (.int .u8 (op : Int)) ∧ W.cell? ⟨dp, 1, none⟩ = some (.slice A n c) ∧ W.cell? ⟨dp, 2 + i * 4 + 1, none⟩ = some (.slice K m d)) (go_keep) (((with_reducible refine (HF.out).mono ?_); rintro e w1 ⟨rfl, hb1⟩; have d1 := D0.out.below hb1; have kr := KR.out.drew.below hb1; have hbw := HB0.out.trans (hb1.mono (Nat.le_of_lt hz)); clear c0 c1 c2 cl; have c0 := d1.c0; have c1 := d1.c1; have k0 := d1.k0 hi; have k1 := d1.k1 hi; have k2 := d1.k2 hi; have k3 := d1.k3 hi; rw [HD.out] at k0 k1 k2 k3; simp only at k0 k1 k2 k3; have f0 := d1.fr (i := 0) (by omega); have f1 := d1.fr (i := 1) (by omega); have f3 := d1.fr (i := 2 + i * 4 + 3) (by omega); have cl := d1.lt; have r0 := kr.cell 0 _ rfl; have r1 := kr.cell 1 _ rfl; have r2 := kr.cell 2 _ rfl; have g0 := kr.froz 0 (by simp); have g1 := kr.froz 1 (by simp); have g2 := kr.froz 2 (by simp); have lr := kr.lt; have D1 := Lib.hid d1; have KR1 := Lib.hid kr; have HB1 := Lib.hid hbw; clear hb1 d1 kr hbw))
  all_goals
    go_wp2
    clear c0 c1 k0 k1 k2 k3 f0 f1 f3 r0 r1 r2 g0 g1 g2
    have bz := (KR1.out.other dp (2 + i * 4 + 3) (.int .i64 (v : Int)) hR').put3 (.bool false) (.int .i64 (0)) (.int .i64 (0))
    have z0 := bz.cell 0 _ rfl
    have z1 := bz.cell 1 _ rfl
    have z2 := bz.cell 2 _ rfl
    have bk := ((((D1.out.blk.set (2 + i * 4 + 3) (.int .i64 (v : Int)) (by omega)).to (dcF_r i v)).other w.heap.size 0 (.bool false) hR).other w.heap.size 1 (.int .i64 (0)) hR).other w.heap.size 2 (.int .i64 (0)) hR
    have ofz := ((((Off.of_below (S := [dp]) HB1.out).setCell (p := ⟨dp, 2 + i * 4 + 3, none⟩) (by simp) (.int .i64 (v : Int))).setNew (p := ⟨w.heap.size, 0, none⟩) (Nat.le_refl _) (.bool false)).setNew (p := ⟨w.heap.size, 1, none⟩) (Nat.le_refl _) (.int .i64 (0))).setNew (p := ⟨w.heap.size, 2, none⟩) (Nat.le_refl _) (.int .i64 (0))
    have dz := (H0.out).upd ofz bk (upd_r dc i v)
    clear bz bk
    exact bodyPost_ret (v := .tuple #[.agg #[.bool false, .int .i64 (0), .int .i64 (0)], .int .i64 0]) (by simp [results, Try.results40, go_sem, z0, z1, z2]) rfl ⟨rfl, ⟨_, _, _, _, dz, rfl⟩, ofz⟩
set_option maxHeartbeats 6400000 in
theorem docStep_readB (w : World) (dp : Nat) (Y : List Nat) (v n c : Nat) (A : Option Addr) (es : List KV) (dc : Nat → DcC) (h : DocR w dp Y v A n c es dc) (hY : ∀ y ∈ dp :: Y, y < w.heap.size) (i : Nat) (hi : i < 64) (op m d : Nat) (K : Option Addr) (ks : List Nat) (x : Int) (r : Nat) (hd : dc i = ⟨op, K, m, d, ks, x, r⟩) (ho1 : 1 ≤ op) (ho4 : op ≤ 4) (hop : op = 2 ∨ op = 3) (hn : n < 4096) (hr : r = 0) (hh : hasK (es.map KV.ent) ks = false) :
    Calls Try.prog 40 #[.pointer (some ⟨dp, 0, none⟩), .int .i64 (i : Int)] w (DstEnd w dp Y v (es.map KV.ent) (updF dc i { dc i with r := v }) false 0 0) := by
  have hlt := h.lt
  have hl := h.ver.len
  have hl4 := h.wf.len
  rw [List.length_map, hl] at hl4
  have j0 : (0 : Int) ≤ (i : Int) := by omega
  have j1 : (i : Int) < 64 := by omega
  have j2 : (i : Int) ≤ 63 := by omega
  have jo : ¬ (op : Int) = 0 := by omega
  have hR : w.heap.size ≠ dp := by omega
  have hR' : dp ≠ w.heap.size := by omega
  have hb0 : Below w.heap.size w (w.alloc (.cells #[.bool false, .int .i64 0, .int .i64 0] 83)) := (Below.refl _ w).alloc (Nat.le_refl _) _
  have d0 := (h.below hb0).below (Below.refl _ _).drew
  have hk := d0.key i hi
  rw [hd] at hk
  simp only at hk
  have hf := find14_any _ _ _ _ _ _ _ _ _ _ _ _ d0.ver hk.1 d0.wf.srt (by omega) (Nat.le_refl _) (Nat.le_refl _)
  rw [findV, hh] at hf
  simp only [Bool.false_eq_true, if_false] at hf
  have HF := Lib.hid hf
  have D0 := Lib.hid d0
  have KR := Lib.hid (BlkL.new w [.bool false, .int .i64 0, .int .i64 0] 83)
  have HB0 := Lib.hid (hb0.drew)
  have HD := Lib.hid hd
  have c0 := d0.k0 hi
  have c1 := d0.c1
  have c2 := d0.k1 hi
  rw [hd] at c0 c2
  simp only at c0 c2
  have b0 : w.cell? ⟨dp, 2 + i * 4, none⟩ = some (.int .u8 (op : Int)) := by have := h.k0 hi; rw [hd] at this; exact this
  have hz : w.heap.size < (w.alloc (.cells #[.bool false, .int .i64 0, .int .i64 0] 83)).drew.heap.size := by simp
  have hsz : (w.alloc (.cells #[.bool false, .int .i64 0, .int .i64 0] 83)).drew.heap.size = w.heap.size + 1 := by simp
  have cl : dp < (w.alloc (.cells #[.bool false, .int .i64 0, .int .i64 0] 83)).drew.heap.size := by omega
  subst hr
  have H0 := Lib.hid h
  have jo1 : ¬ (op : Int) = 1 := by omega
  have jo4 : ¬ (op : Int) = 4 := by omega
  have jb1 : ((op : Int) == 1) = false := by simpa using jo1
  have jb4 : ((op : Int) == 4) = false := by simpa using jo4
  have jn : ¬ (4096 : Int) ≤ (n : Int) := by omega
  clear hb0 d0 hf h hd hk
  go_enter Try.func40, Try.ntmps40
  go_wp2_with fail
  go_region_held3 (fun W => W.cell? ⟨dp, 2 + i * 4, none⟩ = some (.int .u8 (op : Int)) ∧ W.cell? ⟨dp, 1, none⟩ = some (.slice A n c) ∧ W.cell? ⟨dp, 2 + i * 4 + 1, none⟩ = some (.slice K m d)) (go_keep) (((with_reducible refine (HF.out).mono ?_); rintro e w1 ⟨rfl, hb1⟩; have d1 := D0.out.below hb1; have kr := KR.out.drew.below hb1; have hbw := HB0.out.trans (hb1.mono (Nat.le_of_lt hz)); clear c0 c1 c2 cl; have c0 := d1.c0; have c1 := d1.c1; have k0 := d1.k0 hi; have k1 := d1.k1 hi; have k2 := d1.k2 hi; have k3 := d1.k3 hi; rw [HD.out] at k0 k1 k2 k3; simp only at k0 k1 k2 k3; have f0 := d1.fr (i := 0) (by omega); have f1 := d1.fr (i := 1) (by omega); have f3 := d1.fr (i := 2 + i * 4 + 3) (by omega); have cl := d1.lt; have r0 := kr.cell 0 _ rfl; have r1 := kr.cell 1 _ rfl; have r2 := kr.cell 2 _ rfl; have g0 := kr.froz 0 (by simp); have g1 := kr.froz 1 (by simp); have g2 := kr.froz 2 (by simp); have lr := kr.lt; have D1 := Lib.hid d1; have KR1 := Lib.hid kr; have HB1 := Lib.hid hbw; clear hb1 d1 kr hbw))
  all_goals
    go_wp2
    clear c0 c1 k0 k1 k2 k3 f0 f1 f3 r0 r1 r2 g0 g1 g2
    have bz := (KR1.out.other dp (2 + i * 4 + 3) (.int .i64 (v : Int)) hR').put3 (.bool false) (.int .i64 (0)) (.int .i64 (0))
    have z0 := bz.cell 0 _ rfl
    have z1 := bz.cell 1 _ rfl
    have z2 := bz.cell 2 _ rfl
    have bk := ((((D1.out.blk.set (2 + i * 4 + 3) (.int .i64 (v : Int)) (by omega)).to (dcF_r i v)).other w.heap.size 0 (.bool false) hR).other w.heap.size 1 (.int .i64 (0)) hR).other w.heap.size 2 (.int .i64 (0)) hR
    have ofz := ((((Off.of_below (S := [dp]) HB1.out).setCell (p := ⟨dp, 2 + i * 4 + 3, none⟩) (by simp) (.int .i64 (v : Int))).setNew (p := ⟨w.heap.size, 0, none⟩) (Nat.le_refl _) (.bool false)).setNew (p := ⟨w.heap.size, 1, none⟩) (Nat.le_refl _) (.int .i64 (0))).setNew (p := ⟨w.heap.size, 2, none⟩) (Nat.le_refl _) (.int .i64 (0))
    have dz := (H0.out).upd ofz bk (upd_r dc i v)
    clear bz bk
    exact bodyPost_ret (v := .tuple #[.agg #[.bool false, .int .i64 (0), .int .i64 (0)], .int .i64 0]) (by simp [results, Try.results40, go_sem, z0, z1, z2]) rfl ⟨rfl, ⟨_, _, _, _, dz, rfl⟩, ofz⟩
set_option maxHeartbeats 6400000 in
theorem docStep_stale (w : World) (dp : Nat) (Y : List Nat) (v n c : Nat) (A : Option Addr) (es : List KV) (dc : Nat → DcC) (h : DocR w dp Y v A n c es dc) (hY : ∀ y ∈ dp :: Y, y < w.heap.size) (i : Nat) (hi : i < 64) (op m d : Nat) (K : Option Addr) (ks : List Nat) (x : Int) (r : Nat) (hd : dc i = ⟨op, K, m, d, ks, x, r⟩) (ho1 : 1 ≤ op) (ho4 : op ≤ 4) (hr : 1 ≤ r) (hrv : r ≠ v) :
    Calls Try.prog 40 #[.pointer (some ⟨dp, 0, none⟩), .int .i64 (i : Int)] w (DstEnd w dp Y v (es.map KV.ent) (updF dc i { dc i with r := 0 }) false 0 0) := by
  have hlt := h.lt
  have hl := h.ver.len
  have hl4 := h.wf.len
  rw [List.length_map, hl] at hl4
  have j0 : (0 : Int) ≤ (i : Int) := by omega
  have j1 : (i : Int) < 64 := by omega
  have j2 : (i : Int) ≤ 63 := by omega
  have jo : ¬ (op : Int) = 0 := by omega
  have hR : w.heap.size ≠ dp := by omega
  have hR' : dp ≠ w.heap.size := by omega
  have hb0 : Below w.heap.size w (w.alloc (.cells #[.bool false, .int .i64 0, .int .i64 0] 83)) := (Below.refl _ w).alloc (Nat.le_refl _) _
  have d0 := (h.below hb0).below (Below.refl _ _).drew
  have hk := d0.key i hi
  rw [hd] at hk
  simp only at hk
  have hf := find14_any _ _ _ _ _ _ _ _ _ _ _ _ d0.ver hk.1 d0.wf.srt (by omega) (Nat.le_refl _) (Nat.le_refl _)
  generalize findV (es.map KV.ent) ks = at_ at hf
  have HF := Lib.hid hf
  have D0 := Lib.hid d0
  have KR := Lib.hid (BlkL.new w [.bool false, .int .i64 0, .int .i64 0] 83)
  have HB0 := Lib.hid (hb0.drew)
  have HD := Lib.hid hd
  have c0 := d0.k0 hi
  have c1 := d0.c1
  have c2 := d0.k1 hi
  rw [hd] at c0 c2
  simp only at c0 c2
  have b0 : w.cell? ⟨dp, 2 + i * 4, none⟩ = some (.int .u8 (op : Int)) := by have := h.k0 hi; rw [hd] at this; exact this
  have hz : w.heap.size < (w.alloc (.cells #[.bool false, .int .i64 0, .int .i64 0] 83)).drew.heap.size := by simp
  have hsz : (w.alloc (.cells #[.bool false, .int .i64 0, .int .i64 0] 83)).drew.heap.size = w.heap.size + 1 := by simp
  have cl : dp < (w.alloc (.cells #[.bool false, .int .i64 0, .int .i64 0] 83)).drew.heap.size := by omega
  have H0 := Lib.hid h
  have jr : ¬ (r : Int) = 0 := by omega
  have jv : ¬ (r : Int) = (v : Int) := by omega
  clear hb0 d0 hf h hd hk
  go_enter Try.func40, Try.ntmps40
  go_wp2_with fail
  go_region_held3 (fun W => W.cell? ⟨dp, 2 + i * 4, none⟩ = some (.int .u8 (op : Int)) ∧ W.cell? ⟨dp, 1, none⟩ = some (.slice A n c) ∧ W.cell? ⟨dp, 2 + i * 4 + 1, none⟩ = some (.slice K m d)) (go_keep) (((with_reducible refine (HF.out).mono ?_); rintro e w1 ⟨rfl, hb1⟩; have d1 := D0.out.below hb1; have kr := KR.out.drew.below hb1; have hbw := HB0.out.trans (hb1.mono (Nat.le_of_lt hz)); clear c0 c1 c2 cl; have c0 := d1.c0; have c1 := d1.c1; have k0 := d1.k0 hi; have k1 := d1.k1 hi; have k2 := d1.k2 hi; have k3 := d1.k3 hi; rw [HD.out] at k0 k1 k2 k3; simp only at k0 k1 k2 k3; have f0 := d1.fr (i := 0) (by omega); have f1 := d1.fr (i := 1) (by omega); have f3 := d1.fr (i := 2 + i * 4 + 3) (by omega); have cl := d1.lt; have r0 := kr.cell 0 _ rfl; have r1 := kr.cell 1 _ rfl; have r2 := kr.cell 2 _ rfl; have g0 := kr.froz 0 (by simp); have g1 := kr.froz 1 (by simp); have g2 := kr.froz 2 (by simp); have lr := kr.lt; have D1 := Lib.hid d1; have KR1 := Lib.hid kr; have HB1 := Lib.hid hbw; clear hb1 d1 kr hbw))
  all_goals
    go_wp2_with fail
    go_region_held3 (fun W => W.cell? ⟨dp, 0, none⟩ = some (.int .i64 (v : Int)) ∧ W.cell? ⟨dp, 2 + i * 4 + 3, none⟩ = some (.int .i64 (r : Int))) (go_keep) (fail)
    all_goals
      have d2 := D1.out.below (Below.refl _ _).drew
      have kr := KR1.out.drew
      have hb2 := HB1.out.drew
      clear c0 c1 k0 k1 k2 k3 f0 f1 f3 cl r0 r1 r2 g0 g1 g2 lr D1 KR1 HB1
      generalize w1.drew = w2 at *
      have c0 := d2.c0
      have c1 := d2.c1
      have k0 := d2.k0 hi
      have k1 := d2.k1 hi
      have k2 := d2.k2 hi
      have k3 := d2.k3 hi
      rw [HD.out] at k0 k1 k2 k3
      simp only at k0 k1 k2 k3
      have f0 := d2.fr (i := 0) (by omega)
      have f1 := d2.fr (i := 1) (by omega)
      have f3 := d2.fr (i := 2 + i * 4 + 3) (by omega)
      have cl := d2.lt
      have r0 := kr.cell 0 _ rfl
      have r1 := kr.cell 1 _ rfl
      have r2 := kr.cell 2 _ rfl
      have g0 := kr.froz 0 (by simp)
      have g1 := kr.froz 1 (by simp)
      have g2 := kr.froz 2 (by simp)
      have lr := kr.lt
      have D1 := Lib.hid d2
      have KR1 := Lib.hid kr
      have HB1 := Lib.hid hb2
      clear d2 kr hb2
      go_wp2
      clear c0 c1 k0 k1 k2 k3 f0 f1 f3 r0 r1 r2 g0 g1 g2
      have bz := (KR1.out.other dp (2 + i * 4 + 3) (.int .i64 0) hR').put3 (.bool false) (.int .i64 (0)) (.int .i64 (0))
      have z0 := bz.cell 0 _ rfl
      have z1 := bz.cell 1 _ rfl
      have z2 := bz.cell 2 _ rfl
      have bk := ((((D1.out.blk.set (2 + i * 4 + 3) (.int .i64 0) (by omega)).to (dcF_r i 0)).other w.heap.size 0 (.bool false) hR).other w.heap.size 1 (.int .i64 (0)) hR).other w.heap.size 2 (.int .i64 (0)) hR
      have ofz := ((((Off.of_below (S := [dp]) HB1.out).setCell (p := ⟨dp, 2 + i * 4 + 3, none⟩) (by simp) (.int .i64 0)).setNew (p := ⟨w.heap.size, 0, none⟩) (Nat.le_refl _) (.bool false)).setNew (p := ⟨w.heap.size, 1, none⟩) (Nat.le_refl _) (.int .i64 (0))).setNew (p := ⟨w.heap.size, 2, none⟩) (Nat.le_refl _) (.int .i64 (0))
      have dz := (H0.out).upd ofz bk (upd_r dc i 0)
      clear bz bk
      exact bodyPost_ret (v := .tuple #[.agg #[.bool false, .int .i64 (0), .int .i64 (0)], .int .i64 0]) (by simp [results, Try.results40, go_sem, z0, z1, z2]) rfl ⟨rfl, ⟨_, _, _, _, dz, rfl⟩, ofz⟩
end Go.Proofs.Ytpjgpiiibgogeaa


/- The document's shard: DocStep where the map is changed. -/
namespace Go.Proofs.Ytpjgpiiibgogeaa
open Go.RowKit
set_option maxRecDepth 100000
set_option linter.unusedVariables false
theorem valK_tick {l : List Ent} (h : WfL l) (ks : List Nat) : 0 ≤ valK l ks ∧ valK l ks ≤ 4611686018427387903 := by
  unfold valK
  split
  · rename_i hh; exact ent_tick h (has_key hh).1
  · omega
theorem valK_any (w : World) (B B' : Nat) (S : List Nat) (A A' : Option Addr) (n c m d : Nat) (es : List KV) (ks : List Nat) (h : VerA w B S A n c es) (h' : Arg w B' A' m d ks) (ho : srtK (es.map KV.ent)) (hn : n ≤ 1000000) (hB : B ≤ w.heap.size) (hB' : B' ≤ w.heap.size) :
    Calls Try.prog 73 #[.slice A n c, .slice A' m d] w fun e w' => e = .returned (.int .i64 (valK (es.map KV.ent) ks)) ∧ Below w.heap.size w w' := value14_any w B B' S A A' n c m d es ks h h' ho hn hB hB'
set_option maxHeartbeats 6400000 in
theorem docStep_put (w : World) (dp : Nat) (Y : List Nat) (v n c : Nat) (A : Option Addr) (es : List KV) (dc : Nat → DcC) (h : DocR w dp Y v A n c es dc) (hY : ∀ y ∈ dp :: Y, y < w.heap.size) (i : Nat) (hi : i < 64) (op m d : Nat) (K : Option Addr) (ks : List Nat) (x : Int) (r : Nat) (hd : dc i = ⟨op, K, m, d, ks, x, r⟩) (ho1 : 1 ≤ op) (ho4 : op ≤ 4) (hop : op = 2) (hr : r = v) (hv1 : 1 ≤ v) (hv : v < 4611686018427387904) (hwf : WfL (putK (es.map KV.ent) ks x)) :
    Calls Try.prog 40 #[.pointer (some ⟨dp, 0, none⟩), .int .i64 (i : Int)] w (DstEnd w dp Y (v + 1) (putK (es.map KV.ent) ks x) (updF dc i zDc) true 0 x) := by
  have hlt := h.lt
  have hl := h.ver.len
  have hl4 := h.wf.len
  rw [List.length_map, hl] at hl4
  have j0 : (0 : Int) ≤ (i : Int) := by omega
  have j1 : (i : Int) < 64 := by omega
  have j2 : (i : Int) ≤ 63 := by omega
  have jo : ¬ (op : Int) = 0 := by omega
  have hR : w.heap.size ≠ dp := by omega
  have hR' : dp ≠ w.heap.size := by omega
  have hb0 : Below w.heap.size w (w.alloc (.cells #[.bool false, .int .i64 0, .int .i64 0] 83)) := (Below.refl _ w).alloc (Nat.le_refl _) _
  have d0 := (h.below hb0).below (Below.refl _ _).drew
  have hk := d0.key i hi
  rw [hd] at hk
  simp only at hk
  have hf := find14_any _ _ _ _ _ _ _ _ _ _ _ _ d0.ver hk.1 d0.wf.srt (by omega) (Nat.le_refl _) (Nat.le_refl _)
  generalize findV (es.map KV.ent) ks = at_ at hf
  have HF := Lib.hid hf
  have D0 := Lib.hid d0
  have KR := Lib.hid (BlkL.new w [.bool false, .int .i64 0, .int .i64 0] 83)
  have HB0 := Lib.hid (hb0.drew)
  have HD := Lib.hid hd
  have c0 := d0.k0 hi
  have c1 := d0.c1
  have c2 := d0.k1 hi
  rw [hd] at c0 c2
  simp only at c0 c2
  have b0 : w.cell? ⟨dp, 2 + i * 4, none⟩ = some (.int .u8 (op : Int)) := by have := h.k0 hi; rw [hd] at this; exact this
  have hz : w.heap.size < (w.alloc (.cells #[.bool false, .int .i64 0, .int .i64 0] 83)).drew.heap.size := by simp
  have hsz : (w.alloc (.cells #[.bool false, .int .i64 0, .int .i64 0] 83)).drew.heap.size = w.heap.size + 1 := by simp
  have cl : dp < (w.alloc (.cells #[.bool false, .int .i64 0, .int .i64 0] 83)).drew.heap.size := by omega
  subst hop
  have hr2 := hr.symm
  subst hr2
  clear hr
  have H0 := Lib.hid h
  have jr : ¬ (v : Int) = 0 := by omega
  have jw : IntKind.i64.wrap ((v : Int) + 1) = (v : Int) + 1 := IntWalk.i64_in _ (by omega)
  have V0 := Lib.hid (h.ver.new (r := w.heap.size) (Nat.le_refl _))
  have hk0 := h.key i hi
  rw [hd] at hk0
  have A0 := Lib.hid (And.intro hk0.1 (hk0.2.1.new hk0.1 (r := w.heap.size) (Nat.le_refl _)))
  have HM := Lib.hid hk0.2.2
  have HW := Lib.hid h.wf
  have HWF := Lib.hid hwf
  have HS1 : Hid (∀ x ∈ w.heap.size :: dp :: Y, x < w.heap.size + 1) := Lib.hid (by
    intro x hx
    rcases List.mem_cons.1 hx with rfl | hx
    · omega
    · have := hY x hx; omega)
  clear hk0 hwf hY
  clear hb0 d0 hf h hd hk
  go_enter Try.func40, Try.ntmps40
  go_wp2_with fail
  go_region_held3 (fun W => W.cell? ⟨dp, 2 + i * 4, none⟩ = some (.int .u8 2) ∧ W.cell? ⟨dp, 1, none⟩ = some (.slice A n c) ∧ W.cell? ⟨dp, 2 + i * 4 + 1, none⟩ = some (.slice K m d)) (go_keep) (((with_reducible refine (HF.out).mono ?_); rintro e w1 ⟨rfl, hb1⟩; have d1 := D0.out.below hb1; have kr := KR.out.drew.below hb1; have hbw := HB0.out.trans (hb1.mono (Nat.le_of_lt hz)); clear c0 c1 c2 cl; have c0 := d1.c0; have c1 := d1.c1; have k0 := d1.k0 hi; have k1 := d1.k1 hi; have k2 := d1.k2 hi; have k3 := d1.k3 hi; rw [HD.out] at k0 k1 k2 k3; simp only at k0 k1 k2 k3; have f0 := d1.fr (i := 0) (by omega); have f1 := d1.fr (i := 1) (by omega); have f3 := d1.fr (i := 2 + i * 4 + 3) (by omega); have cl := d1.lt; have r0 := kr.cell 0 _ rfl; have r1 := kr.cell 1 _ rfl; have r2 := kr.cell 2 _ rfl; have g0 := kr.froz 0 (by simp); have g1 := kr.froz 1 (by simp); have g2 := kr.froz 2 (by simp); have lr := kr.lt; have D1 := Lib.hid d1; have KR1 := Lib.hid kr; have HB1 := Lib.hid hbw; clear hb1 d1 kr hbw))
  all_goals
    go_wp2_with fail
    go_region_held3 (fun W => W.cell? ⟨dp, 0, none⟩ = some (.int .i64 (v : Int)) ∧ W.cell? ⟨dp, 2 + i * 4 + 3, none⟩ = some (.int .i64 (v : Int))) (go_keep) (fail)
    all_goals
      have d2 := D1.out.below (Below.refl _ _).drew
      have kr := KR1.out.drew
      have hb2 := HB1.out.drew
      clear c0 c1 k0 k1 k2 k3 f0 f1 f3 cl r0 r1 r2 g0 g1 g2 lr D1 KR1 HB1
      generalize w1.drew = w2 at *
      have c0 := d2.c0
      have c1 := d2.c1
      have k0 := d2.k0 hi
      have k1 := d2.k1 hi
      have k2 := d2.k2 hi
      have k3 := d2.k3 hi
      rw [HD.out] at k0 k1 k2 k3
      simp only at k0 k1 k2 k3
      have f0 := d2.fr (i := 0) (by omega)
      have f1 := d2.fr (i := 1) (by omega)
      have f3 := d2.fr (i := 2 + i * 4 + 3) (by omega)
      have cl := d2.lt
      have r0 := kr.cell 0 _ rfl
      have r1 := kr.cell 1 _ rfl
      have r2 := kr.cell 2 _ rfl
      have g0 := kr.froz 0 (by simp)
      have g1 := kr.froz 1 (by simp)
      have g2 := kr.froz 2 (by simp)
      have lr := kr.lt
      have D1 := Lib.hid d2
      have KR1 := Lib.hid kr
      have HB1 := Lib.hid hb2
      clear d2 kr hb2
      go_wp2_with fail
      have dd := D1.out.upd (v' := v + 1) ((Off.refl [dp] w2).setCell (p := ⟨dp, 0, none⟩) (by simp) (.int .i64 ((v : Int) + 1))) ((D1.out.blk.set 0 (.int .i64 ((v : Int) + 1)) (by omega)).to (dcF_v (v + 1))) (fun j => .inr ⟨(dc j).r, rfl⟩)
      have kr := KR1.out.other dp 0 (.int .i64 ((v : Int) + 1)) hR'
      have oo := (Off.of_below (S := [dp]) HB1.out).setCell (p := ⟨dp, 0, none⟩) (by simp) (.int .i64 ((v : Int) + 1))
      clear c0 c1 k0 k1 k2 k3 f0 f1 f3 cl r0 r1 r2 g0 g1 g2 lr
      generalize w2.setCell ⟨dp, 0, none⟩ (.int .i64 ((v : Int) + 1)) = w3 at *
      have c0 := dd.c0
      have c1 := dd.c1
      have k0 := dd.k0 hi
      have k1 := dd.k1 hi
      have k2 := dd.k2 hi
      have k3 := dd.k3 hi
      rw [HD.out] at k0 k1 k2 k3
      simp only at k0 k1 k2 k3
      have f0 := dd.fr (i := 0) (by omega)
      have f1 := dd.fr (i := 1) (by omega)
      have f3 := dd.fr (i := 2 + i * 4 + 3) (by omega)
      have cl := dd.lt
      have r0 := kr.cell 0 _ rfl
      have r1 := kr.cell 1 _ rfl
      have r2 := kr.cell 2 _ rfl
      have g0 := kr.froz 0 (by simp)
      have g1 := kr.froz 1 (by simp)
      have g2 := kr.froz 2 (by simp)
      have lr := kr.lt
      have D_w3 := Lib.hid dd
      have K_w3 := Lib.hid kr
      have O_w3 := Lib.hid oo
      clear dd kr oo
      clear D1 KR1 HB1
      have hs_w3 := O_w3.out.size
      have of_w3 : Off (w.heap.size :: dp :: Y) w w3.drew := O_w3.out.drew.mono (by intro x hx; simp only [List.mem_cons, List.not_mem_nil, or_false] at hx ⊢; exact .inr (.inl hx))
      have V_w3 := Lib.hid (V0.out.off (Nat.le_refl _) of_w3)
      have A_w3 := Lib.hid (A0.out.1.off (Nat.le_refl _) of_w3 A0.out.2)
      clear of_w3
      have HP := Lib.hid (put14_any w3.drew _ _ _ _ _ _ _ _ _ _ _ (x) V_w3.out A_w3.out HW.out.srt (by omega) hs_w3 hs_w3)
      have hld : dp < w3.drew.heap.size := cl
      go_wp2_with fail
      go_region_with (((with_reducible refine HP.out.mono ?_); rintro e w6 ⟨A2, n2, c2, rfl, ho6, hb6⟩; have dd := (D_w3.out.below (Below.refl _ _).drew).below hb6; have kr := K_w3.out.drew.below hb6; have oo := O_w3.out.drew.trans (Off.of_below (S := [dp]) hb6); clear c0 c1 k0 k1 k2 k3 f0 f1 f3 cl r0 r1 r2 g0 g1 g2 lr; have c0 := dd.c0; have c1 := dd.c1; have k0 := dd.k0 hi; have k1 := dd.k1 hi; have k2 := dd.k2 hi; have k3 := dd.k3 hi; rw [HD.out] at k0 k1 k2 k3; simp only at k0 k1 k2 k3; have f0 := dd.fr (i := 0) (by omega); have f1 := dd.fr (i := 1) (by omega); have f3 := dd.fr (i := 2 + i * 4 + 3) (by omega); have cl := dd.lt; have r0 := kr.cell 0 _ rfl; have r1 := kr.cell 1 _ rfl; have r2 := kr.cell 2 _ rfl; have g0 := kr.froz 0 (by simp); have g1 := kr.froz 1 (by simp); have g2 := kr.froz 2 (by simp); have lr := kr.lt; have D6 := Lib.hid dd; have K6 := Lib.hid kr; have O6 := Lib.hid oo; have HO6 := Lib.hid ho6; have HB6 := Lib.hid hb6; clear dd kr oo ho6 hb6))
      all_goals
        have ver6 := dn_row V_w3.out A_w3.out HM.out hs_w3 hs_w3 A0.out.2 (fun x hx => Nat.lt_of_lt_of_le (HS1.out x hx) K_w3.out.lt) (Nat.le_refl _) HO6.out HB6.out (x := x) (fun e he => (List.mem_append.1 he).elim (fun h1 => .inl (List.mem_of_mem_take h1)) (fun h1 => (List.mem_cons.1 h1).elim .inr (fun h2 => .inl (List.mem_of_mem_drop h2))))
        have bk7 := (D6.out.blk.set 1 (.slice A2 n2 c2) (by omega)).to (dcF_e A2 n2 c2)
        have kr7 := K6.out.other dp 1 (.slice A2 n2 c2) hR'
        have of7 := O6.out.setCell (p := ⟨dp, 1, none⟩) (by simp) (.slice A2 n2 c2)
        have os7 : Off (w.heap.size :: dp :: Y) w6 (w6.setCell ⟨dp, 1, none⟩ (.slice A2 n2 c2)) := (Off.refl _ _).setCell (p := ⟨dp, 1, none⟩) (by simp) _
        have HE := Lib.hid (end_any _ dp (v + 1) n2 c2 i A2 dc bk7 hi 0 (x))
        have lr7 : w.heap.size < (w6.setCell ⟨dp, 1, none⟩ (.slice A2 n2 c2)).heap.size := kr7.lt
        clear c0 c1 k0 k1 k2 k3 f0 f1 f3 cl r0 r1 r2 g0 g1 g2 lr D6 O6
        generalize w6.setCell ⟨dp, 1, none⟩ (.slice A2 n2 c2) = w7 at *
        go_wp2_with fail
        with_reducible refine HE.out.mono ?_
        rintro e w8 ⟨rfl, hb8, hf8⟩
        have kr8 := kr7.off hf8 (by simpa using hR)
        have of8 := of7.trans hf8
        have os8 := os7.trans (hf8.mono (S' := w.heap.size :: dp :: Y) (by intro x hx; simp only [List.mem_cons, List.not_mem_nil, or_false] at hx ⊢; exact .inr (.inl hx)))
        have r0 := kr8.cell 0 _ rfl
        have r1 := kr8.cell 1 _ rfl
        have r2 := kr8.cell 2 _ rfl
        have g0 := kr8.froz 0 (by simp)
        have g1 := kr8.froz 1 (by simp)
        have g2 := kr8.froz 2 (by simp)
        have lr := kr8.lt
        have HX := Lib.hid (And.intro hb8 (And.intro kr8 (And.intro of8 os8)))
        have HV6 := Lib.hid ver6
        clear hb8 hf8 kr8 of8 os8 kr7 of7 os7 bk7 HE ver6 K6
        go_wp2
        clear r0 r1 r2 g0 g1 g2
        have bz := (HX.out.2.1).put3 (.bool true) (.int .i64 0) (.int .i64 (x))
        have z0 := bz.cell 0 _ rfl
        have z1 := bz.cell 1 _ rfl
        have z2 := bz.cell 2 _ rfl
        have bk := (((HX.out.1).other w.heap.size 0 (.bool true) hR).other w.heap.size 1 (.int .i64 0) hR).other w.heap.size 2 (.int .i64 (x)) hR
        have ofz := (((HX.out.2.2.1).setNew (p := ⟨w.heap.size, 0, none⟩) (Nat.le_refl _) (.bool true)).setNew (p := ⟨w.heap.size, 1, none⟩) (Nat.le_refl _) (.int .i64 0)).setNew (p := ⟨w.heap.size, 2, none⟩) (Nat.le_refl _) (.int .i64 (x))
        have osz := (((HX.out.2.2.2).setCell (p := ⟨w.heap.size, 0, none⟩) (by simp) (.bool true)).setCell (p := ⟨w.heap.size, 1, none⟩) (by simp) (.int .i64 0)).setCell (p := ⟨w.heap.size, 2, none⟩) (by simp) (.int .i64 (x))
        have vz := ((HV6.out.off (Nat.le_refl _) osz).more osz.size).weak (S := dp :: Y) (by intro x hx; exact List.mem_cons_of_mem _ hx)
        have eql : (List.take (plK (es.map KV.ent) ks) es ++ ⟨K, m, d, ks, x⟩ :: List.drop (plK (es.map KV.ent) ks + (hasK (es.map KV.ent) ks).toNat) es).map KV.ent = putK (es.map KV.ent) ks (x) := by rw [putK]; simp [KV.ent]
        have dz := H0.out.upd2 ofz bk (upd_z dc i) vz (by rw [eql]; exact HWF.out)
        clear bz bk
        exact bodyPost_ret (v := .tuple #[.agg #[.bool true, .int .i64 0, .int .i64 (x)], .int .i64 0]) (by simp [results, Try.results40, go_sem, z0, z1, z2]) rfl ⟨rfl, ⟨_, _, _, _, dz, eql⟩, ofz⟩
set_option maxHeartbeats 6400000 in
theorem docStep_add (w : World) (dp : Nat) (Y : List Nat) (v n c : Nat) (A : Option Addr) (es : List KV) (dc : Nat → DcC) (h : DocR w dp Y v A n c es dc) (hY : ∀ y ∈ dp :: Y, y < w.heap.size) (i : Nat) (hi : i < 64) (op m d : Nat) (K : Option Addr) (ks : List Nat) (x : Int) (r : Nat) (hd : dc i = ⟨op, K, m, d, ks, x, r⟩) (ho1 : 1 ≤ op) (ho4 : op ≤ 4) (hop : op = 3) (hr : r = v) (hv1 : 1 ≤ v) (hv : v < 4611686018427387904) (hx : 0 ≤ x ∧ x ≤ 4611686018427387903) (hwf : WfL (putK (es.map KV.ent) ks (clampV (valK (es.map KV.ent) ks + x)))) :
    Calls Try.prog 40 #[.pointer (some ⟨dp, 0, none⟩), .int .i64 (i : Int)] w (DstEnd w dp Y (v + 1) (putK (es.map KV.ent) ks (clampV (valK (es.map KV.ent) ks + x))) (updF dc i zDc) true 0 (clampV (valK (es.map KV.ent) ks + x))) := by
  have hlt := h.lt
  have hl := h.ver.len
  have hl4 := h.wf.len
  rw [List.length_map, hl] at hl4
  have j0 : (0 : Int) ≤ (i : Int) := by omega
  have j1 : (i : Int) < 64 := by omega
  have j2 : (i : Int) ≤ 63 := by omega
  have jo : ¬ (op : Int) = 0 := by omega
  have hR : w.heap.size ≠ dp := by omega
  have hR' : dp ≠ w.heap.size := by omega
  have hb0 : Below w.heap.size w (w.alloc (.cells #[.bool false, .int .i64 0, .int .i64 0] 83)) := (Below.refl _ w).alloc (Nat.le_refl _) _
  have d0 := (h.below hb0).below (Below.refl _ _).drew
  have hk := d0.key i hi
  rw [hd] at hk
  simp only at hk
  have hf := find14_any _ _ _ _ _ _ _ _ _ _ _ _ d0.ver hk.1 d0.wf.srt (by omega) (Nat.le_refl _) (Nat.le_refl _)
  generalize findV (es.map KV.ent) ks = at_ at hf
  have HF := Lib.hid hf
  have D0 := Lib.hid d0
  have KR := Lib.hid (BlkL.new w [.bool false, .int .i64 0, .int .i64 0] 83)
  have HB0 := Lib.hid (hb0.drew)
  have HD := Lib.hid hd
  have c0 := d0.k0 hi
  have c1 := d0.c1
  have c2 := d0.k1 hi
  rw [hd] at c0 c2
  simp only at c0 c2
  have b0 : w.cell? ⟨dp, 2 + i * 4, none⟩ = some (.int .u8 (op : Int)) := by have := h.k0 hi; rw [hd] at this; exact this
  have hz : w.heap.size < (w.alloc (.cells #[.bool false, .int .i64 0, .int .i64 0] 83)).drew.heap.size := by simp
  have hsz : (w.alloc (.cells #[.bool false, .int .i64 0, .int .i64 0] 83)).drew.heap.size = w.heap.size + 1 := by simp
  have cl : dp < (w.alloc (.cells #[.bool false, .int .i64 0, .int .i64 0] 83)).drew.heap.size := by omega
  subst hop
  have hr2 := hr.symm
  subst hr2
  clear hr
  have H0 := Lib.hid h
  have jr : ¬ (v : Int) = 0 := by omega
  have jw : IntKind.i64.wrap ((v : Int) + 1) = (v : Int) + 1 := IntWalk.i64_in _ (by omega)
  have V0 := Lib.hid (h.ver.new (r := w.heap.size) (Nat.le_refl _))
  have hk0 := h.key i hi
  rw [hd] at hk0
  have A0 := Lib.hid (And.intro hk0.1 (hk0.2.1.new hk0.1 (r := w.heap.size) (Nat.le_refl _)))
  have HM := Lib.hid hk0.2.2
  have HW := Lib.hid h.wf
  have HWF := Lib.hid hwf
  have HS1 : Hid (∀ x ∈ w.heap.size :: dp :: Y, x < w.heap.size + 1) := Lib.hid (by
    intro x hx
    rcases List.mem_cons.1 hx with rfl | hx
    · omega
    · have := hY x hx; omega)
  clear hk0 hwf hY
  have htk := valK_tick h.wf ks
  have HADD := Lib.hid (fun W => radd_int W (valK (es.map KV.ent) ks) x htk hx)
  generalize hva : valK (es.map KV.ent) ks = va at *
  have HVA := Lib.hid hva
  generalize clampV (va + x) = y at *
  clear hva htk
  clear hb0 d0 hf h hd hk
  go_enter Try.func40, Try.ntmps40
  go_wp2_with fail
  go_region_held3 (fun W => W.cell? ⟨dp, 2 + i * 4, none⟩ = some (.int .u8 3) ∧ W.cell? ⟨dp, 1, none⟩ = some (.slice A n c) ∧ W.cell? ⟨dp, 2 + i * 4 + 1, none⟩ = some (.slice K m d)) (go_keep) (((with_reducible refine (HF.out).mono ?_); rintro e w1 ⟨rfl, hb1⟩; have d1 := D0.out.below hb1; have kr := KR.out.drew.below hb1; have hbw := HB0.out.trans (hb1.mono (Nat.le_of_lt hz)); clear c0 c1 c2 cl; have c0 := d1.c0; have c1 := d1.c1; have k0 := d1.k0 hi; have k1 := d1.k1 hi; have k2 := d1.k2 hi; have k3 := d1.k3 hi; rw [HD.out] at k0 k1 k2 k3; simp only at k0 k1 k2 k3; have f0 := d1.fr (i := 0) (by omega); have f1 := d1.fr (i := 1) (by omega); have f3 := d1.fr (i := 2 + i * 4 + 3) (by omega); have cl := d1.lt; have r0 := kr.cell 0 _ rfl; have r1 := kr.cell 1 _ rfl; have r2 := kr.cell 2 _ rfl; have g0 := kr.froz 0 (by simp); have g1 := kr.froz 1 (by simp); have g2 := kr.froz 2 (by simp); have lr := kr.lt; have D1 := Lib.hid d1; have KR1 := Lib.hid kr; have HB1 := Lib.hid hbw; clear hb1 d1 kr hbw))
  all_goals
    go_wp2_with fail
    go_region_held3 (fun W => W.cell? ⟨dp, 0, none⟩ = some (.int .i64 (v : Int)) ∧ W.cell? ⟨dp, 2 + i * 4 + 3, none⟩ = some (.int .i64 (v : Int))) (go_keep) (fail)
    all_goals
      have d2 := D1.out.below (Below.refl _ _).drew
      have kr := KR1.out.drew
      have hb2 := HB1.out.drew
      clear c0 c1 k0 k1 k2 k3 f0 f1 f3 cl r0 r1 r2 g0 g1 g2 lr D1 KR1 HB1
      generalize w1.drew = w2 at *
      have c0 := d2.c0
      have c1 := d2.c1
      have k0 := d2.k0 hi
      have k1 := d2.k1 hi
      have k2 := d2.k2 hi
      have k3 := d2.k3 hi
      rw [HD.out] at k0 k1 k2 k3
      simp only at k0 k1 k2 k3
      have f0 := d2.fr (i := 0) (by omega)
      have f1 := d2.fr (i := 1) (by omega)
      have f3 := d2.fr (i := 2 + i * 4 + 3) (by omega)
      have cl := d2.lt
      have r0 := kr.cell 0 _ rfl
      have r1 := kr.cell 1 _ rfl
      have r2 := kr.cell 2 _ rfl
      have g0 := kr.froz 0 (by simp)
      have g1 := kr.froz 1 (by simp)
      have g2 := kr.froz 2 (by simp)
      have lr := kr.lt
      have D1 := Lib.hid d2
      have KR1 := Lib.hid kr
      have HB1 := Lib.hid hb2
      clear d2 kr hb2
      go_wp2_with fail
      have dd := D1.out.upd (v' := v + 1) ((Off.refl [dp] w2).setCell (p := ⟨dp, 0, none⟩) (by simp) (.int .i64 ((v : Int) + 1))) ((D1.out.blk.set 0 (.int .i64 ((v : Int) + 1)) (by omega)).to (dcF_v (v + 1))) (fun j => .inr ⟨(dc j).r, rfl⟩)
      have kr := KR1.out.other dp 0 (.int .i64 ((v : Int) + 1)) hR'
      have oo := (Off.of_below (S := [dp]) HB1.out).setCell (p := ⟨dp, 0, none⟩) (by simp) (.int .i64 ((v : Int) + 1))
      clear c0 c1 k0 k1 k2 k3 f0 f1 f3 cl r0 r1 r2 g0 g1 g2 lr
      generalize w2.setCell ⟨dp, 0, none⟩ (.int .i64 ((v : Int) + 1)) = w3 at *
      have c0 := dd.c0
      have c1 := dd.c1
      have k0 := dd.k0 hi
      have k1 := dd.k1 hi
      have k2 := dd.k2 hi
      have k3 := dd.k3 hi
      rw [HD.out] at k0 k1 k2 k3
      simp only at k0 k1 k2 k3
      have f0 := dd.fr (i := 0) (by omega)
      have f1 := dd.fr (i := 1) (by omega)
      have f3 := dd.fr (i := 2 + i * 4 + 3) (by omega)
      have cl := dd.lt
      have r0 := kr.cell 0 _ rfl
      have r1 := kr.cell 1 _ rfl
      have r2 := kr.cell 2 _ rfl
      have g0 := kr.froz 0 (by simp)
      have g1 := kr.froz 1 (by simp)
      have g2 := kr.froz 2 (by simp)
      have lr := kr.lt
      have D_w3 := Lib.hid dd
      have K_w3 := Lib.hid kr
      have O_w3 := Lib.hid oo
      clear dd kr oo
      clear D1 KR1 HB1
      have hs_w3 := O_w3.out.size
      have of_w3 : Off (w.heap.size :: dp :: Y) w w3.drew := O_w3.out.drew.mono (by intro x hx; simp only [List.mem_cons, List.not_mem_nil, or_false] at hx ⊢; exact .inr (.inl hx))
      have V_w3 := Lib.hid (V0.out.off (Nat.le_refl _) of_w3)
      have A_w3 := Lib.hid (A0.out.1.off (Nat.le_refl _) of_w3 A0.out.2)
      clear of_w3
      have hvl := valK_any w3.drew _ _ _ _ _ _ _ _ _ _ _ V_w3.out A_w3.out HW.out.srt (by omega) hs_w3 hs_w3
      rw [HVA.out] at hvl
      have HVL := Lib.hid hvl
      clear hvl
      go_wp2_with fail
      go_region_held3 (fun W => W.cell? ⟨dp, 1, none⟩ = some (.slice A n c) ∧ W.cell? ⟨dp, 2 + i * 4 + 1, none⟩ = some (.slice K m d) ∧ W.cell? ⟨dp, 2 + i * 4 + 2, none⟩ = some (.int .i64 x)) (go_keep) (first | (((with_reducible refine HVL.out.mono ?_); rintro e w4 ⟨rfl, hb4⟩; have dd := (D_w3.out.below (Below.refl _ _).drew).below hb4; have kr := K_w3.out.drew.below hb4; have oo := O_w3.out.drew.trans (Off.of_below (S := [dp]) hb4); clear c0 c1 k0 k1 k2 k3 f0 f1 f3 cl r0 r1 r2 g0 g1 g2 lr; have c0 := dd.c0; have c1 := dd.c1; have k0 := dd.k0 hi; have k1 := dd.k1 hi; have k2 := dd.k2 hi; have k3 := dd.k3 hi; rw [HD.out] at k0 k1 k2 k3; simp only at k0 k1 k2 k3; have f0 := dd.fr (i := 0) (by omega); have f1 := dd.fr (i := 1) (by omega); have f3 := dd.fr (i := 2 + i * 4 + 3) (by omega); have cl := dd.lt; have r0 := kr.cell 0 _ rfl; have r1 := kr.cell 1 _ rfl; have r2 := kr.cell 2 _ rfl; have g0 := kr.froz 0 (by simp); have g1 := kr.froz 1 (by simp); have g2 := kr.froz 2 (by simp); have lr := kr.lt; have D_w4 := Lib.hid dd; have K_w4 := Lib.hid kr; have O_w4 := Lib.hid oo; clear dd kr oo; clear hb4)) | (((with_reducible refine (HADD.out _).mono ?_); rintro e w5 ⟨rfl, hb5⟩; have dd := D_w4.out.below hb5; have kr := K_w4.out.below hb5; have oo := O_w4.out.trans (Off.of_below (S := [dp]) hb5); clear c0 c1 k0 k1 k2 k3 f0 f1 f3 cl r0 r1 r2 g0 g1 g2 lr; have c0 := dd.c0; have c1 := dd.c1; have k0 := dd.k0 hi; have k1 := dd.k1 hi; have k2 := dd.k2 hi; have k3 := dd.k3 hi; rw [HD.out] at k0 k1 k2 k3; simp only at k0 k1 k2 k3; have f0 := dd.fr (i := 0) (by omega); have f1 := dd.fr (i := 1) (by omega); have f3 := dd.fr (i := 2 + i * 4 + 3) (by omega); have cl := dd.lt; have r0 := kr.cell 0 _ rfl; have r1 := kr.cell 1 _ rfl; have r2 := kr.cell 2 _ rfl; have g0 := kr.froz 0 (by simp); have g1 := kr.froz 1 (by simp); have g2 := kr.froz 2 (by simp); have lr := kr.lt; have D_w5 := Lib.hid dd; have K_w5 := Lib.hid kr; have O_w5 := Lib.hid oo; clear dd kr oo; clear hb5)))
      all_goals
        have hs_w5 := O_w5.out.size
        have of_w5 : Off (w.heap.size :: dp :: Y) w w5.drew := O_w5.out.drew.mono (by intro x hx; simp only [List.mem_cons, List.not_mem_nil, or_false] at hx ⊢; exact .inr (.inl hx))
        have V_w5 := Lib.hid (V0.out.off (Nat.le_refl _) of_w5)
        have A_w5 := Lib.hid (A0.out.1.off (Nat.le_refl _) of_w5 A0.out.2)
        clear of_w5
        have HP := Lib.hid (put14_any w5.drew _ _ _ _ _ _ _ _ _ _ _ (y) V_w5.out A_w5.out HW.out.srt (by omega) hs_w5 hs_w5)
        have hld : dp < w5.drew.heap.size := cl
        go_wp2_with fail
        go_region_with (((with_reducible refine HP.out.mono ?_); rintro e w6 ⟨A2, n2, c2, rfl, ho6, hb6⟩; have dd := (D_w5.out.below (Below.refl _ _).drew).below hb6; have kr := K_w5.out.drew.below hb6; have oo := O_w5.out.drew.trans (Off.of_below (S := [dp]) hb6); clear c0 c1 k0 k1 k2 k3 f0 f1 f3 cl r0 r1 r2 g0 g1 g2 lr; have c0 := dd.c0; have c1 := dd.c1; have k0 := dd.k0 hi; have k1 := dd.k1 hi; have k2 := dd.k2 hi; have k3 := dd.k3 hi; rw [HD.out] at k0 k1 k2 k3; simp only at k0 k1 k2 k3; have f0 := dd.fr (i := 0) (by omega); have f1 := dd.fr (i := 1) (by omega); have f3 := dd.fr (i := 2 + i * 4 + 3) (by omega); have cl := dd.lt; have r0 := kr.cell 0 _ rfl; have r1 := kr.cell 1 _ rfl; have r2 := kr.cell 2 _ rfl; have g0 := kr.froz 0 (by simp); have g1 := kr.froz 1 (by simp); have g2 := kr.froz 2 (by simp); have lr := kr.lt; have D6 := Lib.hid dd; have K6 := Lib.hid kr; have O6 := Lib.hid oo; have HO6 := Lib.hid ho6; have HB6 := Lib.hid hb6; clear dd kr oo ho6 hb6))
        all_goals
          have ver6 := dn_row V_w5.out A_w5.out HM.out hs_w5 hs_w5 A0.out.2 (fun x hx => Nat.lt_of_lt_of_le (HS1.out x hx) K_w5.out.lt) (Nat.le_refl _) HO6.out HB6.out (x := y) (fun e he => (List.mem_append.1 he).elim (fun h1 => .inl (List.mem_of_mem_take h1)) (fun h1 => (List.mem_cons.1 h1).elim .inr (fun h2 => .inl (List.mem_of_mem_drop h2))))
          have bk7 := (D6.out.blk.set 1 (.slice A2 n2 c2) (by omega)).to (dcF_e A2 n2 c2)
          have kr7 := K6.out.other dp 1 (.slice A2 n2 c2) hR'
          have of7 := O6.out.setCell (p := ⟨dp, 1, none⟩) (by simp) (.slice A2 n2 c2)
          have os7 : Off (w.heap.size :: dp :: Y) w6 (w6.setCell ⟨dp, 1, none⟩ (.slice A2 n2 c2)) := (Off.refl _ _).setCell (p := ⟨dp, 1, none⟩) (by simp) _
          have HE := Lib.hid (end_any _ dp (v + 1) n2 c2 i A2 dc bk7 hi 0 (y))
          have lr7 : w.heap.size < (w6.setCell ⟨dp, 1, none⟩ (.slice A2 n2 c2)).heap.size := kr7.lt
          clear c0 c1 k0 k1 k2 k3 f0 f1 f3 cl r0 r1 r2 g0 g1 g2 lr D6 O6
          generalize w6.setCell ⟨dp, 1, none⟩ (.slice A2 n2 c2) = w7 at *
          go_wp2_with fail
          with_reducible refine HE.out.mono ?_
          rintro e w8 ⟨rfl, hb8, hf8⟩
          have kr8 := kr7.off hf8 (by simpa using hR)
          have of8 := of7.trans hf8
          have os8 := os7.trans (hf8.mono (S' := w.heap.size :: dp :: Y) (by intro x hx; simp only [List.mem_cons, List.not_mem_nil, or_false] at hx ⊢; exact .inr (.inl hx)))
          have r0 := kr8.cell 0 _ rfl
          have r1 := kr8.cell 1 _ rfl
          have r2 := kr8.cell 2 _ rfl
          have g0 := kr8.froz 0 (by simp)
          have g1 := kr8.froz 1 (by simp)
          have g2 := kr8.froz 2 (by simp)
          have lr := kr8.lt
          have HX := Lib.hid (And.intro hb8 (And.intro kr8 (And.intro of8 os8)))
          have HV6 := Lib.hid ver6
          clear hb8 hf8 kr8 of8 os8 kr7 of7 os7 bk7 HE ver6 K6
          go_wp2
          clear r0 r1 r2 g0 g1 g2
          have bz := (HX.out.2.1).put3 (.bool true) (.int .i64 0) (.int .i64 (y))
          have z0 := bz.cell 0 _ rfl
          have z1 := bz.cell 1 _ rfl
          have z2 := bz.cell 2 _ rfl
          have bk := (((HX.out.1).other w.heap.size 0 (.bool true) hR).other w.heap.size 1 (.int .i64 0) hR).other w.heap.size 2 (.int .i64 (y)) hR
          have ofz := (((HX.out.2.2.1).setNew (p := ⟨w.heap.size, 0, none⟩) (Nat.le_refl _) (.bool true)).setNew (p := ⟨w.heap.size, 1, none⟩) (Nat.le_refl _) (.int .i64 0)).setNew (p := ⟨w.heap.size, 2, none⟩) (Nat.le_refl _) (.int .i64 (y))
          have osz := (((HX.out.2.2.2).setCell (p := ⟨w.heap.size, 0, none⟩) (by simp) (.bool true)).setCell (p := ⟨w.heap.size, 1, none⟩) (by simp) (.int .i64 0)).setCell (p := ⟨w.heap.size, 2, none⟩) (by simp) (.int .i64 (y))
          have vz := ((HV6.out.off (Nat.le_refl _) osz).more osz.size).weak (S := dp :: Y) (by intro x hx; exact List.mem_cons_of_mem _ hx)
          have eql : (List.take (plK (es.map KV.ent) ks) es ++ ⟨K, m, d, ks, y⟩ :: List.drop (plK (es.map KV.ent) ks + (hasK (es.map KV.ent) ks).toNat) es).map KV.ent = putK (es.map KV.ent) ks (y) := by rw [putK]; simp [KV.ent]
          have dz := H0.out.upd2 ofz bk (upd_z dc i) vz (by rw [eql]; exact HWF.out)
          clear bz bk
          exact bodyPost_ret (v := .tuple #[.agg #[.bool true, .int .i64 0, .int .i64 (y)], .int .i64 0]) (by simp [results, Try.results40, go_sem, z0, z1, z2]) rfl ⟨rfl, ⟨_, _, _, _, dz, eql⟩, ofz⟩
set_option maxHeartbeats 6400000 in
theorem docStep_drop (w : World) (dp : Nat) (Y : List Nat) (v n c : Nat) (A : Option Addr) (es : List KV) (dc : Nat → DcC) (h : DocR w dp Y v A n c es dc) (hY : ∀ y ∈ dp :: Y, y < w.heap.size) (i : Nat) (hi : i < 64) (op m d : Nat) (K : Option Addr) (ks : List Nat) (x : Int) (r : Nat) (hd : dc i = ⟨op, K, m, d, ks, x, r⟩) (ho1 : 1 ≤ op) (ho4 : op ≤ 4) (hop : op = 4) (hr : r = v) (hv1 : 1 ≤ v) (hv : v < 4611686018427387904) (hh : hasK (es.map KV.ent) ks = true) (hwf : WfL (cutK (es.map KV.ent) ks)) :
    Calls Try.prog 40 #[.pointer (some ⟨dp, 0, none⟩), .int .i64 (i : Int)] w (DstEnd w dp Y (v + 1) (cutK (es.map KV.ent) ks) (updF dc i zDc) true 0 (valK (es.map KV.ent) ks)) := by
  have hlt := h.lt
  have hl := h.ver.len
  have hl4 := h.wf.len
  rw [List.length_map, hl] at hl4
  have j0 : (0 : Int) ≤ (i : Int) := by omega
  have j1 : (i : Int) < 64 := by omega
  have j2 : (i : Int) ≤ 63 := by omega
  have jo : ¬ (op : Int) = 0 := by omega
  have hR : w.heap.size ≠ dp := by omega
  have hR' : dp ≠ w.heap.size := by omega
  have hb0 : Below w.heap.size w (w.alloc (.cells #[.bool false, .int .i64 0, .int .i64 0] 83)) := (Below.refl _ w).alloc (Nat.le_refl _) _
  have d0 := (h.below hb0).below (Below.refl _ _).drew
  have hk := d0.key i hi
  rw [hd] at hk
  simp only at hk
  have hf := find14_any _ _ _ _ _ _ _ _ _ _ _ _ d0.ver hk.1 d0.wf.srt (by omega) (Nat.le_refl _) (Nat.le_refl _)
  generalize findV (es.map KV.ent) ks = at_ at hf
  have HF := Lib.hid hf
  have D0 := Lib.hid d0
  have KR := Lib.hid (BlkL.new w [.bool false, .int .i64 0, .int .i64 0] 83)
  have HB0 := Lib.hid (hb0.drew)
  have HD := Lib.hid hd
  have c0 := d0.k0 hi
  have c1 := d0.c1
  have c2 := d0.k1 hi
  rw [hd] at c0 c2
  simp only at c0 c2
  have b0 : w.cell? ⟨dp, 2 + i * 4, none⟩ = some (.int .u8 (op : Int)) := by have := h.k0 hi; rw [hd] at this; exact this
  have hz : w.heap.size < (w.alloc (.cells #[.bool false, .int .i64 0, .int .i64 0] 83)).drew.heap.size := by simp
  have hsz : (w.alloc (.cells #[.bool false, .int .i64 0, .int .i64 0] 83)).drew.heap.size = w.heap.size + 1 := by simp
  have cl : dp < (w.alloc (.cells #[.bool false, .int .i64 0, .int .i64 0] 83)).drew.heap.size := by omega
  subst hop
  have hr2 := hr.symm
  subst hr2
  clear hr
  have H0 := Lib.hid h
  have jr : ¬ (v : Int) = 0 := by omega
  have jw : IntKind.i64.wrap ((v : Int) + 1) = (v : Int) + 1 := IntWalk.i64_in _ (by omega)
  have V0 := Lib.hid (h.ver.new (r := w.heap.size) (Nat.le_refl _))
  have hk0 := h.key i hi
  rw [hd] at hk0
  have A0 := Lib.hid (And.intro hk0.1 (hk0.2.1.new hk0.1 (r := w.heap.size) (Nat.le_refl _)))
  have HM := Lib.hid hk0.2.2
  have HW := Lib.hid h.wf
  have HWF := Lib.hid hwf
  have HS1 : Hid (∀ x ∈ w.heap.size :: dp :: Y, x < w.heap.size + 1) := Lib.hid (by
    intro x hx
    rcases List.mem_cons.1 hx with rfl | hx
    · omega
    · have := hY x hx; omega)
  clear hk0 hwf hY
  generalize hva : valK (es.map KV.ent) ks = va at *
  have HVA := Lib.hid hva
  clear hva
  clear hb0 d0 hf h hd hk
  go_enter Try.func40, Try.ntmps40
  go_wp2_with fail
  go_region_held3 (fun W => W.cell? ⟨dp, 2 + i * 4, none⟩ = some (.int .u8 4) ∧ W.cell? ⟨dp, 1, none⟩ = some (.slice A n c) ∧ W.cell? ⟨dp, 2 + i * 4 + 1, none⟩ = some (.slice K m d)) (go_keep) (((with_reducible refine (HF.out).mono ?_); rintro e w1 ⟨rfl, hb1⟩; have d1 := D0.out.below hb1; have kr := KR.out.drew.below hb1; have hbw := HB0.out.trans (hb1.mono (Nat.le_of_lt hz)); clear c0 c1 c2 cl; have c0 := d1.c0; have c1 := d1.c1; have k0 := d1.k0 hi; have k1 := d1.k1 hi; have k2 := d1.k2 hi; have k3 := d1.k3 hi; rw [HD.out] at k0 k1 k2 k3; simp only at k0 k1 k2 k3; have f0 := d1.fr (i := 0) (by omega); have f1 := d1.fr (i := 1) (by omega); have f3 := d1.fr (i := 2 + i * 4 + 3) (by omega); have cl := d1.lt; have r0 := kr.cell 0 _ rfl; have r1 := kr.cell 1 _ rfl; have r2 := kr.cell 2 _ rfl; have g0 := kr.froz 0 (by simp); have g1 := kr.froz 1 (by simp); have g2 := kr.froz 2 (by simp); have lr := kr.lt; have D1 := Lib.hid d1; have KR1 := Lib.hid kr; have HB1 := Lib.hid hbw; clear hb1 d1 kr hbw))
  all_goals
    go_wp2_with fail
    go_region_held3 (fun W => W.cell? ⟨dp, 0, none⟩ = some (.int .i64 (v : Int)) ∧ W.cell? ⟨dp, 2 + i * 4 + 3, none⟩ = some (.int .i64 (v : Int))) (go_keep) (fail)
    all_goals
      have d2 := D1.out.below (Below.refl _ _).drew
      have kr := KR1.out.drew
      have hb2 := HB1.out.drew
      clear c0 c1 k0 k1 k2 k3 f0 f1 f3 cl r0 r1 r2 g0 g1 g2 lr D1 KR1 HB1
      generalize w1.drew = w2 at *
      have c0 := d2.c0
      have c1 := d2.c1
      have k0 := d2.k0 hi
      have k1 := d2.k1 hi
      have k2 := d2.k2 hi
      have k3 := d2.k3 hi
      rw [HD.out] at k0 k1 k2 k3
      simp only at k0 k1 k2 k3
      have f0 := d2.fr (i := 0) (by omega)
      have f1 := d2.fr (i := 1) (by omega)
      have f3 := d2.fr (i := 2 + i * 4 + 3) (by omega)
      have cl := d2.lt
      have r0 := kr.cell 0 _ rfl
      have r1 := kr.cell 1 _ rfl
      have r2 := kr.cell 2 _ rfl
      have g0 := kr.froz 0 (by simp)
      have g1 := kr.froz 1 (by simp)
      have g2 := kr.froz 2 (by simp)
      have lr := kr.lt
      have D1 := Lib.hid d2
      have KR1 := Lib.hid kr
      have HB1 := Lib.hid hb2
      clear d2 kr hb2
      go_wp2_with fail
      have dd := D1.out.upd (v' := v + 1) ((Off.refl [dp] w2).setCell (p := ⟨dp, 0, none⟩) (by simp) (.int .i64 ((v : Int) + 1))) ((D1.out.blk.set 0 (.int .i64 ((v : Int) + 1)) (by omega)).to (dcF_v (v + 1))) (fun j => .inr ⟨(dc j).r, rfl⟩)
      have kr := KR1.out.other dp 0 (.int .i64 ((v : Int) + 1)) hR'
      have oo := (Off.of_below (S := [dp]) HB1.out).setCell (p := ⟨dp, 0, none⟩) (by simp) (.int .i64 ((v : Int) + 1))
      clear c0 c1 k0 k1 k2 k3 f0 f1 f3 cl r0 r1 r2 g0 g1 g2 lr
      generalize w2.setCell ⟨dp, 0, none⟩ (.int .i64 ((v : Int) + 1)) = w3 at *
      have c0 := dd.c0
      have c1 := dd.c1
      have k0 := dd.k0 hi
      have k1 := dd.k1 hi
      have k2 := dd.k2 hi
      have k3 := dd.k3 hi
      rw [HD.out] at k0 k1 k2 k3
      simp only at k0 k1 k2 k3
      have f0 := dd.fr (i := 0) (by omega)
      have f1 := dd.fr (i := 1) (by omega)
      have f3 := dd.fr (i := 2 + i * 4 + 3) (by omega)
      have cl := dd.lt
      have r0 := kr.cell 0 _ rfl
      have r1 := kr.cell 1 _ rfl
      have r2 := kr.cell 2 _ rfl
      have g0 := kr.froz 0 (by simp)
      have g1 := kr.froz 1 (by simp)
      have g2 := kr.froz 2 (by simp)
      have lr := kr.lt
      have D_w3 := Lib.hid dd
      have K_w3 := Lib.hid kr
      have O_w3 := Lib.hid oo
      clear dd kr oo
      clear D1 KR1 HB1
      have hs_w3 := O_w3.out.size
      have of_w3 : Off (w.heap.size :: dp :: Y) w w3.drew := O_w3.out.drew.mono (by intro x hx; simp only [List.mem_cons, List.not_mem_nil, or_false] at hx ⊢; exact .inr (.inl hx))
      have V_w3 := Lib.hid (V0.out.off (Nat.le_refl _) of_w3)
      have A_w3 := Lib.hid (A0.out.1.off (Nat.le_refl _) of_w3 A0.out.2)
      clear of_w3
      have hvl := valK_any w3.drew _ _ _ _ _ _ _ _ _ _ _ V_w3.out A_w3.out HW.out.srt (by omega) hs_w3 hs_w3
      rw [HVA.out] at hvl
      have HVL := Lib.hid hvl
      clear hvl
      go_wp2_with fail
      go_region_held3 (fun W => W.cell? ⟨dp, 1, none⟩ = some (.slice A n c) ∧ W.cell? ⟨dp, 2 + i * 4 + 1, none⟩ = some (.slice K m d) ∧ W.cell? ⟨dp, 2 + i * 4 + 2, none⟩ = some (.int .i64 x)) (go_keep) (((with_reducible refine HVL.out.mono ?_); rintro e w4 ⟨rfl, hb4⟩; have dd := (D_w3.out.below (Below.refl _ _).drew).below hb4; have kr := K_w3.out.drew.below hb4; have oo := O_w3.out.drew.trans (Off.of_below (S := [dp]) hb4); clear c0 c1 k0 k1 k2 k3 f0 f1 f3 cl r0 r1 r2 g0 g1 g2 lr; have c0 := dd.c0; have c1 := dd.c1; have k0 := dd.k0 hi; have k1 := dd.k1 hi; have k2 := dd.k2 hi; have k3 := dd.k3 hi; rw [HD.out] at k0 k1 k2 k3; simp only at k0 k1 k2 k3; have f0 := dd.fr (i := 0) (by omega); have f1 := dd.fr (i := 1) (by omega); have f3 := dd.fr (i := 2 + i * 4 + 3) (by omega); have cl := dd.lt; have r0 := kr.cell 0 _ rfl; have r1 := kr.cell 1 _ rfl; have r2 := kr.cell 2 _ rfl; have g0 := kr.froz 0 (by simp); have g1 := kr.froz 1 (by simp); have g2 := kr.froz 2 (by simp); have lr := kr.lt; have D_w4 := Lib.hid dd; have K_w4 := Lib.hid kr; have O_w4 := Lib.hid oo; clear dd kr oo; clear hb4))
      all_goals
        have hs_w4 := O_w4.out.size
        have of_w4 : Off (w.heap.size :: dp :: Y) w w4.drew := O_w4.out.drew.mono (by intro x hx; simp only [List.mem_cons, List.not_mem_nil, or_false] at hx ⊢; exact .inr (.inl hx))
        have V_w4 := Lib.hid (V0.out.off (Nat.le_refl _) of_w4)
        have A_w4 := Lib.hid (A0.out.1.off (Nat.le_refl _) of_w4 A0.out.2)
        clear of_w4
        have HP := Lib.hid (drop14_any w4.drew _ _ _ _ _ _ _ _ _ _ _ V_w4.out A_w4.out HW.out.srt (by omega) hs_w4 hs_w4 hh)
        have hld : dp < w4.drew.heap.size := cl
        go_wp2_with fail
        go_region_with (((with_reducible refine HP.out.mono ?_); rintro e w6 ⟨A2, n2, c2, rfl, ho6, hb6⟩; have dd := (D_w4.out.below (Below.refl _ _).drew).below hb6; have kr := K_w4.out.drew.below hb6; have oo := O_w4.out.drew.trans (Off.of_below (S := [dp]) hb6); clear c0 c1 k0 k1 k2 k3 f0 f1 f3 cl r0 r1 r2 g0 g1 g2 lr; have c0 := dd.c0; have c1 := dd.c1; have k0 := dd.k0 hi; have k1 := dd.k1 hi; have k2 := dd.k2 hi; have k3 := dd.k3 hi; rw [HD.out] at k0 k1 k2 k3; simp only at k0 k1 k2 k3; have f0 := dd.fr (i := 0) (by omega); have f1 := dd.fr (i := 1) (by omega); have f3 := dd.fr (i := 2 + i * 4 + 3) (by omega); have cl := dd.lt; have r0 := kr.cell 0 _ rfl; have r1 := kr.cell 1 _ rfl; have r2 := kr.cell 2 _ rfl; have g0 := kr.froz 0 (by simp); have g1 := kr.froz 1 (by simp); have g2 := kr.froz 2 (by simp); have lr := kr.lt; have D6 := Lib.hid dd; have K6 := Lib.hid kr; have O6 := Lib.hid oo; have HO6 := Lib.hid ho6; have HB6 := Lib.hid hb6; clear dd kr oo ho6 hb6))
        all_goals
          have ver6 := dn_row V_w4.out A_w4.out HM.out hs_w4 hs_w4 A0.out.2 (fun x hx => Nat.lt_of_lt_of_le (HS1.out x hx) K_w4.out.lt) (Nat.le_refl _) HO6.out HB6.out (x := va) (fun e he => .inl ((List.mem_append.1 he).elim List.mem_of_mem_take List.mem_of_mem_drop))
          have bk7 := (D6.out.blk.set 1 (.slice A2 n2 c2) (by omega)).to (dcF_e A2 n2 c2)
          have kr7 := K6.out.other dp 1 (.slice A2 n2 c2) hR'
          have of7 := O6.out.setCell (p := ⟨dp, 1, none⟩) (by simp) (.slice A2 n2 c2)
          have os7 : Off (w.heap.size :: dp :: Y) w6 (w6.setCell ⟨dp, 1, none⟩ (.slice A2 n2 c2)) := (Off.refl _ _).setCell (p := ⟨dp, 1, none⟩) (by simp) _
          have HE := Lib.hid (end_any _ dp (v + 1) n2 c2 i A2 dc bk7 hi 0 (va))
          have lr7 : w.heap.size < (w6.setCell ⟨dp, 1, none⟩ (.slice A2 n2 c2)).heap.size := kr7.lt
          clear c0 c1 k0 k1 k2 k3 f0 f1 f3 cl r0 r1 r2 g0 g1 g2 lr D6 O6
          generalize w6.setCell ⟨dp, 1, none⟩ (.slice A2 n2 c2) = w7 at *
          go_wp2_with fail
          with_reducible refine HE.out.mono ?_
          rintro e w8 ⟨rfl, hb8, hf8⟩
          have kr8 := kr7.off hf8 (by simpa using hR)
          have of8 := of7.trans hf8
          have os8 := os7.trans (hf8.mono (S' := w.heap.size :: dp :: Y) (by intro x hx; simp only [List.mem_cons, List.not_mem_nil, or_false] at hx ⊢; exact .inr (.inl hx)))
          have r0 := kr8.cell 0 _ rfl
          have r1 := kr8.cell 1 _ rfl
          have r2 := kr8.cell 2 _ rfl
          have g0 := kr8.froz 0 (by simp)
          have g1 := kr8.froz 1 (by simp)
          have g2 := kr8.froz 2 (by simp)
          have lr := kr8.lt
          have HX := Lib.hid (And.intro hb8 (And.intro kr8 (And.intro of8 os8)))
          have HV6 := Lib.hid ver6
          clear hb8 hf8 kr8 of8 os8 kr7 of7 os7 bk7 HE ver6 K6
          go_wp2
          clear r0 r1 r2 g0 g1 g2
          have bz := (HX.out.2.1).put3 (.bool true) (.int .i64 0) (.int .i64 (va))
          have z0 := bz.cell 0 _ rfl
          have z1 := bz.cell 1 _ rfl
          have z2 := bz.cell 2 _ rfl
          have bk := (((HX.out.1).other w.heap.size 0 (.bool true) hR).other w.heap.size 1 (.int .i64 0) hR).other w.heap.size 2 (.int .i64 (va)) hR
          have ofz := (((HX.out.2.2.1).setNew (p := ⟨w.heap.size, 0, none⟩) (Nat.le_refl _) (.bool true)).setNew (p := ⟨w.heap.size, 1, none⟩) (Nat.le_refl _) (.int .i64 0)).setNew (p := ⟨w.heap.size, 2, none⟩) (Nat.le_refl _) (.int .i64 (va))
          have osz := (((HX.out.2.2.2).setCell (p := ⟨w.heap.size, 0, none⟩) (by simp) (.bool true)).setCell (p := ⟨w.heap.size, 1, none⟩) (by simp) (.int .i64 0)).setCell (p := ⟨w.heap.size, 2, none⟩) (by simp) (.int .i64 (va))
          have vz := ((HV6.out.off (Nat.le_refl _) osz).more osz.size).weak (S := dp :: Y) (by intro x hx; exact List.mem_cons_of_mem _ hx)
          have eql : (List.take (plK (es.map KV.ent) ks) es ++ List.drop (plK (es.map KV.ent) ks + 1) es).map KV.ent = cutK (es.map KV.ent) ks := by rw [cutK]; simp
          have dz := H0.out.upd2 ofz bk (upd_z dc i) vz (by rw [eql]; exact HWF.out)
          clear bz bk
          exact bodyPost_ret (v := .tuple #[.agg #[.bool true, .int .i64 0, .int .i64 (va)], .int .i64 0]) (by simp [results, Try.results40, go_sem, z0, z1, z2]) rfl ⟨rfl, ⟨_, _, _, _, dz, eql⟩, ofz⟩
end Go.Proofs.Ytpjgpiiibgogeaa


/- The program's shard beside the document's: one state, and each call of it. -/
namespace Go.Proofs.Ytpjgpiiibgogeaa
open Go.RowKit
set_option maxRecDepth 100000
set_option linter.unusedVariables false

def dcG (v : Nat) (l : List Ent) (c : DcC) : Nx → Prop
  | .none => c.op = 0
  | .read o k z => c.op = o ∧ c.zs = k ∧ c.x = z ∧ c.r = 0 ∧ OkC o k z
  | .write o k z num made r => c.op = o ∧ c.zs = k ∧ c.x = z ∧ c.r = num ∧ OkC o k z ∧ 1 ≤ num ∧ num ≤ v ∧ chgV o r = true ∧ (num = v → ofV o k z l = (r, made))
theorem dcG.on {v v' : Nat} {l l' : List Ent} {c : DcC} {y : Nx} (h : dcG v l c y) (hv : (v' = v ∧ l' = l) ∨ v' = v + 1) : dcG v' l' c y := by
  cases y with
  | none => exact h
  | read o k z => exact h
  | write o k z num made r =>
    obtain ⟨h1, h2, h3, h3', h4, h4', h5, h6, h7⟩ := h
    refine ⟨h1, h2, h3, h3', h4, h4', by omega, h6, fun e => ?_⟩
    rcases hv with ⟨rfl, rfl⟩ | rfl
    · exact h7 e
    · omega
theorem dcG.is {v : Nat} {l : List Ent} {c : DcC} {y : Nx} (h : dcG v l c y) : (c.op != 0) = isNx y := by
  cases y with
  | none => have e : c.op = 0 := h; simp [e, isNx]
  | read o k z => obtain ⟨h1, _, _, _, h4⟩ := h; have := h4.o1; simp [isNx]; omega
  | write o k z num made r => obtain ⟨h1, _, _, _, h4, _⟩ := h; have := h4.o1; simp [isNx]; omega
/-- A step of the document, against that of the program. -/
theorem docStep_any (w : World) (dp : Nat) (Y : List Nat) (v n c : Nat) (A : Option Addr) (es : List KV) (dc : Nat → DcC) (h : DocR w dp Y v A n c es dc) (hY : ∀ y ∈ dp :: Y, y < w.heap.size) (i : Nat) (hi : i < 64) (y : Nx) (hg : dcG v (es.map KV.ent) (dc i) y) (hp : isNx y = true) (hv1 : 1 ≤ v) (hv : v < 4611686018427387904) (t : StX) (ht : stepX v (es.map KV.ent) y = t) :
    ∃ dc', Calls Try.prog 40 #[.pointer (some ⟨dp, 0, none⟩), .int .i64 (i : Int)] w (DstEnd w dp Y t.v t.l dc' t.q.d t.q.E t.q.N) ∧ dcG t.v t.l (dc' i) t.y ∧ (∀ j, j ≠ i → dc' j = dc j) ∧ ((t.v = v ∧ t.l = es.map KV.ent) ∨ t.v = v + 1) := by
  subst ht
  have hwf := h.wf
  have hlen : (es.map KV.ent).length = n := by rw [List.length_map]; exact h.ver.len
  obtain ⟨op, K, m, d, ks, x, r, hd⟩ : ∃ op K m d ks x r, dc i = ⟨op, K, m, d, ks, x, r⟩ := ⟨_, _, _, _, _, _, _, rfl⟩
  have hoth : ∀ p, ∀ j, j ≠ i → updF dc i p j = dc j := fun p j hj => updF_other _ _ _ _ hj
  cases y with
  | none => simp [isNx] at hp
  | read o k z =>
    rw [hd] at hg
    obtain ⟨h1, h2, h3, h4, ok⟩ := hg
    simp only at h1 h2 h3 h4
    subst h1 h2 h3 h4
    have o1 := ok.o1
    have o4 := ok.o4
    rcases hc : chgV op (ofV op ks x (es.map KV.ent)).1 with _ | _
    · have e : stepX v (es.map KV.ent) (.read op ks x) = ⟨⟨true, (ofV op ks x (es.map KV.ent)).1.E, (ofV op ks x (es.map KV.ent)).1.N⟩, v, es.map KV.ent, .none⟩ := by simp [stepX, rdRes, rdNx, hc]
      rw [e]
      refine ⟨updF dc i zDc, ?_, by rw [updF_same]; rfl, hoth _, .inl ⟨rfl, rfl⟩⟩
      rcases hh : hasK (es.map KV.ent) ks with _ | _
      · rcases (by omega : op = 1 ∨ op = 4 ∨ op = 2 ∨ op = 3) with rfl | rfl | rfl | rfl
        · have := docStep_none1 w dp Y v n c A es dc h hY i hi _ m d K ks x _ hd o1 o4 rfl rfl hh
          simpa [ofV, hh] using this
        · have := docStep_none4 w dp Y v n c A es dc h hY i hi _ m d K ks x _ hd o1 o4 rfl rfl hh
          simpa [ofV, hh] using this
        · have hn : 4096 ≤ n := by
            apply Decidable.byContradiction
            intro hn
            simp [ofV, setV, chgV, hh, show ¬ 4096 ≤ es.length by have := h.ver.len; omega] at hc
          have := docStep_full2 w dp Y v n c A es dc h hY i hi _ m d K ks x _ hd o1 o4 rfl rfl hh hn
          simpa [ofV, setV, hh, show 4096 ≤ es.length by have := h.ver.len; omega] using this
        · have hn : 4096 ≤ n := by
            apply Decidable.byContradiction
            intro hn
            simp [ofV, setV, chgV, hh, show ¬ 4096 ≤ es.length by have := h.ver.len; omega] at hc
          have := docStep_full3 w dp Y v n c A es dc h hY i hi _ m d K ks x _ hd o1 o4 rfl rfl hh hn
          simpa [ofV, setV, hh, show 4096 ≤ es.length by have := h.ver.len; omega] using this
      · rcases (by omega : op = 1 ∨ op = 4 ∨ op = 2 ∨ op = 3) with rfl | rfl | rfl | rfl
        · have := docStep_get w dp Y v n c A es dc h hY i hi _ m d K ks x _ hd o1 o4 rfl rfl hh
          simpa [ofV, hh] using this
        · simp [ofV, chgV, hh] at hc
        · simp [ofV, setV, chgV, hh] at hc
        · simp [ofV, setV, chgV, hh] at hc
    · have e : stepX v (es.map KV.ent) (.read op ks x) = ⟨⟨false, 0, 0⟩, v, es.map KV.ent, .write op ks x v (ofV op ks x (es.map KV.ent)).2 (ofV op ks x (es.map KV.ent)).1⟩ := by simp [stepX, rdRes, rdNx, hc]
      rw [e]
      refine ⟨updF dc i { dc i with r := v }, ?_, ?_, hoth _, .inl ⟨rfl, rfl⟩⟩
      · rcases hh : hasK (es.map KV.ent) ks with _ | _
        · have ho : op = 2 ∨ op = 3 := by
            rcases (by omega : op = 1 ∨ op = 4 ∨ op = 2 ∨ op = 3) with rfl | rfl | rfl | rfl
            · simp [chgV] at hc
            · simp [ofV, chgV, hh] at hc
            · exact .inl rfl
            · exact .inr rfl
          have hn : n < 4096 := by
            apply Decidable.byContradiction
            intro hn
            rcases ho with rfl | rfl <;> simp [ofV, setV, chgV, hh, show 4096 ≤ es.length by have := h.ver.len; omega] at hc
          exact docStep_readB w dp Y v n c A es dc h hY i hi _ m d K ks x _ hd o1 o4 ho hn rfl hh
        · have ho : op ≠ 1 := by rintro rfl; simp [chgV] at hc
          exact docStep_readA w dp Y v n c A es dc h hY i hi _ m d K ks x _ hd o1 o4 ho rfl hh
      · rw [updF_same, hd]
        exact ⟨rfl, rfl, rfl, rfl, ok, hv1, Nat.le_refl _, hc, fun _ => rfl⟩
  | write o k z num made q =>
    rw [hd] at hg
    obtain ⟨h1, h2, h3, h4, ok, hn1, hnv, hc, hof⟩ := hg
    simp only at h1 h2 h3 h4
    subst h1 h2 h3 h4
    have o1 := ok.o1
    have o4 := ok.o4
    by_cases hvr : v = r
    · have e : stepX v (es.map KV.ent) (.write op ks x r made q) = ⟨⟨true, q.E, q.N⟩, v + 1, made, .none⟩ := if_pos hvr
      rw [e]
      refine ⟨updF dc i zDc, ?_, by rw [updF_same]; rfl, hoth _, .inr rfl⟩
      have hof := hof hvr.symm
      have hw2 := of_wf hwf op ks x ok.v2
      rw [hof] at hw2
      simp only at hw2
      rcases (by omega : op = 1 ∨ op = 4 ∨ op = 2 ∨ op = 3) with rfl | rfl | rfl | rfl
      · simp [chgV] at hc
      · have hh : hasK (es.map KV.ent) ks = true := by
          rcases hh : hasK (es.map KV.ent) ks with _ | _
          · simp [ofV, hh] at hof
            obtain ⟨rfl, _⟩ := hof
            simp [chgV] at hc
          · rfl
        simp [ofV, hh] at hof
        obtain ⟨rfl, rfl⟩ := hof
        have := docStep_drop w dp Y v n c A es dc h hY i hi _ m d K ks x _ hd o1 o4 rfl hvr.symm hv1 hv hh hw2
        simpa [valK, hh] using this
      · have hfull : ¬ (hasK (es.map KV.ent) ks = false ∧ 4096 ≤ (es.map KV.ent).length) := by
          intro hf
          simp only [ofV, setV, true_or, if_true] at hof
          rw [if_pos hf] at hof
          obtain ⟨rfl, _⟩ := Prod.mk.inj hof
          simp [chgV] at hc
        simp only [ofV, setV, true_or, if_true] at hof
        rw [if_neg hfull] at hof
        obtain ⟨rfl, rfl⟩ := Prod.mk.inj hof
        have e2 : newV 2 ks x (es.map KV.ent) = x := by unfold newV; rw [if_neg (by omega)]
        rw [e2] at hw2 ⊢
        exact docStep_put w dp Y v n c A es dc h hY i hi _ m d K ks x _ hd o1 o4 rfl hvr.symm hv1 hv hw2
      · have hx := ok.v2 (.inr rfl)
        have hfull : ¬ (hasK (es.map KV.ent) ks = false ∧ 4096 ≤ (es.map KV.ent).length) := by
          intro hf
          simp only [ofV, setV, or_true, if_true] at hof
          rw [if_pos hf] at hof
          obtain ⟨rfl, _⟩ := Prod.mk.inj hof
          simp [chgV] at hc
        simp only [ofV, setV, or_true, if_true] at hof
        rw [if_neg hfull] at hof
        obtain ⟨rfl, rfl⟩ := Prod.mk.inj hof
        have e2 : newV 3 ks x (es.map KV.ent) = clampV (valK (es.map KV.ent) ks + x) := by
          unfold newV valK
          rcases hh : hasK (es.map KV.ent) ks with _ | _
          · simp; exact (clampV_in hx.1 hx.2).symm
          · simp
        rw [e2] at hw2 ⊢
        exact docStep_add w dp Y v n c A es dc h hY i hi _ m d K ks x _ hd o1 o4 rfl hvr.symm hv1 hv hx hw2
    · have e : stepX v (es.map KV.ent) (.write op ks x r made q) = ⟨⟨false, 0, 0⟩, v, es.map KV.ent, .read op ks x⟩ := if_neg hvr
      rw [e]
      refine ⟨updF dc i { dc i with r := 0 }, docStep_stale w dp Y v n c A es dc h hY i hi _ m d K ks x _ hd o1 o4 hn1 (fun h => hvr h.symm), ?_, hoth _, .inl ⟨rfl, rfl⟩⟩
      rw [updF_same, hd]
      exact ⟨rfl, rfl, rfl, rfl, ok⟩
theorem docStep_bad (w : World) (p : Value) (who : Int) (hb : inB who 64 = false) : Calls Try.prog 40 #[p, .int .i64 who] w fun e w' => e = .returned (.tuple #[.agg #[.bool false, .int .i64 0, .int .i64 0], .int .i64 1]) ∧ Below w.heap.size w w' := by
  rcases inB_no hb with h | h
  · clear hb
    go_enter Try.func40, Try.ntmps40
    go_wp2
    exact bodyPost_ret (v := .tuple #[.agg #[.bool false, .int .i64 0, .int .i64 0], .int .i64 1]) (by simp [results, Try.results40, go_sem]) rfl ⟨rfl, (Below.refl w.heap.size w).alloc (Nat.le_refl _) _⟩
  · have d0 : ¬ who < 0 := by omega
    clear hb
    go_enter Try.func40, Try.ntmps40
    go_wp2
    exact bodyPost_ret (v := .tuple #[.agg #[.bool false, .int .i64 0, .int .i64 0], .int .i64 1]) (by simp [results, Try.results40, go_sem]) rfl ⟨rfl, (Below.refl w.heap.size w).alloc (Nat.le_refl _) _⟩
theorem docStep_no (w : World) (dp i : Nat) (hi : i < 64) (hc : w.cell? ⟨dp, 2 + i * 4, none⟩ = some (.int .u8 0)) (hl : dp < w.heap.size) : Calls Try.prog 40 #[.pointer (some ⟨dp, 0, none⟩), .int .i64 (i : Int)] w fun e w' => e = .returned (.tuple #[.agg #[.bool false, .int .i64 0, .int .i64 0], .int .i64 7]) ∧ Below w.heap.size w w' := by
  have d0 : ¬ (i : Int) < 0 := by omega
  have d1 : ¬ (63 : Int) < (i : Int) := by omega
  have d2 : (i : Int) < 64 := by omega
  have d3 : (0 : Int) ≤ (i : Int) := by omega
  have hr : w.heap.size ≠ dp := by omega
  go_enter Try.func40, Try.ntmps40
  go_wp2
  exact bodyPost_ret (v := .tuple #[.agg #[.bool false, .int .i64 0, .int .i64 0], .int .i64 7]) (by simp [results, Try.results40, go_sem]) rfl ⟨rfl, (Below.refl w.heap.size w).alloc (Nat.le_refl _) _⟩

end Go.Proofs.Ytpjgpiiibgogeaa


/- The program's shard and the document's, alike: what is told of both. -/
namespace Go.Proofs.Ytpjgpiiibgogeaa
open Go.RowKit
set_option maxRecDepth 100000
set_option linter.unusedVariables false

section
variable {w0 w w' : World} {s b bw dp r : Nat} {X Y : List Nat} {k v k' v' n c : Nat} {l l' : List Ent} {nx nx' : Nat → Nx} {A : Option Addr} {es : List KV} {dc : Nat → DcC}
theorem ShC.addX (h : ShC w0 w s b bw X k v l nx) (hb : Below w.heap.size w w') (hr : w.heap.size ≤ r) (hr' : r < w'.heap.size) : ShC w0 w' s b bw (r :: X) k v l nx := by
  obtain ⟨A, n, c, es, fv, ring, he, hq⟩ := h.sh
  have hr2 := hq.below hb
  refine ⟨⟨A, n, c, es, fv, ring, he, ⟨hr2.blk, hr2.m, ?_, hr2.wf, fun i hi => ?_, hr2.vk, hr2.v1, hr2.ne, hr2.ne', fun x hx => ?_⟩⟩, h.bs, h.bb, h.bbw, h.bel.trans (hb.mono h.bel.size)⟩
  · exact (((hq.ver.new hr).below hb).more hb.size).weak memX
  · exact (((hq.nxv i hi).newr hr).off ((Off.of_below hb))).weak memX
  · rcases List.mem_cons.1 hx with e | e
    · rw [e]; exact hr'
    · exact hr2.hX x e
theorem memY : ∀ x ∈ s :: b :: bw :: X, x ∈ s :: b :: bw :: r :: X := by
  intro x hx
  simp only [List.mem_cons] at hx ⊢
  rcases hx with h | h | h | h <;> simp [h]
theorem ShC.dropX (h : ShC w0 w s b bw (r :: X) k v l nx) : ShC w0 w s b bw X k v l nx := by
  obtain ⟨A, n, c, es, fv, ring, he, hq⟩ := h.sh
  exact ⟨⟨A, n, c, es, fv, ring, he, ⟨hq.blk, hq.m, hq.ver.weak memY, hq.wf, fun i hi => (hq.nxv i hi).weak memY, hq.vk, hq.v1, hq.ne, hq.ne', fun x hx => hq.hX x (List.mem_cons_of_mem _ hx)⟩⟩, h.bs, h.bb, h.bbw, h.bel⟩
theorem ShC.allX (h : ShC w0 w s b bw X k v l nx) : ∀ x ∈ s :: b :: bw :: X, x < w.heap.size := by
  obtain ⟨_, _, _, _, _, _, _, hr⟩ := h.sh
  exact hr.all
theorem DocR.weak {Y' : List Nat} (h : DocR w dp Y' v A n c es dc) (hs : ∀ x ∈ Y, x ∈ Y') : DocR w dp Y v A n c es dc := by
  have hs2 : ∀ x ∈ dp :: Y, x ∈ dp :: Y' := by
    intro x hx
    rcases List.mem_cons.1 hx with e | e
    · rw [e]; simp
    · exact List.mem_cons_of_mem _ (hs x e)
  exact ⟨h.blk, h.ver.weak hs2, h.wf, fun j hj => ⟨(h.key j hj).1, (h.key j hj).2.1.weak hs2, (h.key j hj).2.2⟩⟩
theorem DocR.addY (h : DocR w dp Y v A n c es dc) (hb : Below w.heap.size w w') (hr : w.heap.size ≤ r) : DocR w' dp (r :: Y) v A n c es dc := by
  have h2 := h.below hb
  have hs2 : ∀ x ∈ dp :: r :: Y, x ∈ r :: dp :: Y := by
    intro x hx
    simp only [List.mem_cons] at hx ⊢
    rcases hx with e | e | e <;> simp [e]
  exact ⟨h2.blk, (((h.ver.new hr).below hb).more hb.size).weak hs2, h.wf, fun j hj => ⟨(h2.key j hj).1, ((h.key j hj).2.1.new (h.key j hj).1 hr).weak hs2, (h.key j hj).2.2⟩⟩
end

/-- The program's shard and the document's, alike. -/
structure PlS (w0 w : World) (s b bw dp : Nat) (X : List Nat) (k v : Nat) (l : List Ent) (nx : Nat → Nx) (dc : Nat → DcC) : Prop where
  sh : ShC w0 w s b bw X k v l nx
  dr : ∃ A n c es, DocR w dp (s :: b :: bw :: X) v A n c es dc ∧ es.map KV.ent = l
  rel : ∀ j, j < 64 → dcG v l (dc j) (nx j)
  dX : dp ∈ X
  dge : w0.heap.size ≤ dp
  dn : dp ∉ [s, b, bw]
section
variable {w0 w w' : World} {s b bw dp r : Nat} {X Y S : List Nat} {k v k' v' n c : Nat} {l l' : List Ent} {nx nx' : Nat → Nx} {A : Option Addr} {es : List KV} {dc dc' : Nat → DcC}
theorem PlS.below (h : PlS w0 w s b bw dp X k v l nx dc) (hb : Below w.heap.size w w') : PlS w0 w' s b bw dp X k v l nx dc := by
  obtain ⟨A, n, c, es, hd, he⟩ := h.dr
  exact ⟨h.sh.below hb, ⟨A, n, c, es, hd.below hb, he⟩, h.rel, h.dX, h.dge, h.dn⟩
theorem PlS.alloc (h : PlS w0 w s b bw dp X k v l nx dc) (o : Obj) : PlS w0 (w.alloc o) s b bw dp X k v l nx dc := h.below ((Below.refl _ _).alloc (Nat.le_refl _) _)
theorem PlS.addX (h : PlS w0 w s b bw dp X k v l nx dc) (hb : Below w.heap.size w w') (hr : w.heap.size ≤ r) (hr' : r < w'.heap.size) : PlS w0 w' s b bw dp (r :: X) k v l nx dc := by
  obtain ⟨A, n, c, es, hd, he⟩ := h.dr
  exact ⟨h.sh.addX hb hr hr', ⟨A, n, c, es, (hd.addY hb hr).weak memX, he⟩, h.rel, List.mem_cons_of_mem _ h.dX, h.dge, h.dn⟩
theorem PlS.dropX (h : PlS w0 w s b bw dp (r :: X) k v l nx dc) (hd : dp ∈ X) : PlS w0 w s b bw dp X k v l nx dc := by
  obtain ⟨A, n, c, es, hq, he⟩ := h.dr
  exact ⟨h.sh.dropX, ⟨A, n, c, es, hq.weak memY, he⟩, h.rel, hd, h.dge, h.dn⟩
/-- Stores into a block of X that isn't the document's. -/
theorem PlS.putX (h : PlS w0 w s b bw dp X k v l nx dc) {O : Nat} (hO : O ∈ X) (hs : O ∉ [s, b, bw]) (hd : O ≠ dp) (hge : w0.heap.size ≤ O) (hf : Off [O] w w') : PlS w0 w' s b bw dp X k v l nx dc := by
  obtain ⟨A, n, c, es, hq, he⟩ := h.dr
  refine ⟨h.sh.putX hO hs hge hf, ⟨A, n, c, es, hq.off hf (by simpa using Ne.symm hd) (hf.mono ?_), he⟩, h.rel, h.dX, h.dge, h.dn⟩
  intro x hx
  simp only [List.mem_cons, List.not_mem_nil, or_false] at hx ⊢
  subst hx
  exact .inr (.inr (.inr (.inr hO)))
theorem PlS.lt (h : PlS w0 w s b bw dp X k v l nx dc) : ∀ x ∈ dp :: s :: b :: bw :: X, x < w.heap.size := by
  intro x hx
  rcases List.mem_cons.1 hx with e | e
  · rw [e]; exact h.sh.allX _ (by simp [h.dX])
  · exact h.sh.allX _ e
end
def StE (w0 : World) (s b bw : Nat) (X : List Nat) (k v : Nat) (l : List Ent) (nx : Nat → Nx) (E : Nat) (w : World) (e : Ending) (w' : World) : Prop :=
  e = .returned (.int .i64 (E : Int)) ∧ ShC w0 w' s b bw X k v l nx ∧ Off [s, b, bw] w w'
def DtE (s b bw dp : Nat) (X : List Nat) (v : Nat) (l : List Ent) (nx : Nat → Nx) (E : Nat) (w : World) (e : Ending) (w' : World) : Prop :=
  e = .returned (.int .i64 (E : Int)) ∧ (∃ A n c es dc, (DocR w' dp (s :: b :: bw :: X) v A n c es dc ∧ es.map KV.ent = l) ∧ ∀ j, j < 64 → dcG v l (dc j) (nx j)) ∧ Off [dp] w w'
/-- Start of both: the same error, and both are alike behind it. -/
theorem starts_any (w0 : World) (s b bw dp : Nat) (X : List Nat) (k v : Nat) (l : List Ent) (nx : Nat → Nx) (dc : Nat → DcC) (hrel : ∀ j, j < 64 → dcG v l (dc j) (nx j)) (hdX : dp ∈ X) (who : Int) (op n : Nat) (x : Int) (zs : List Nat) :
    ∃ (E : Nat) (nx' : Nat → Nx), (∀ W A c, ShC w0 W s b bw X k v l nx → Arg W W.heap.size A n c zs → Calls Try.prog 36 #[.pointer (some ⟨s, 0, none⟩), .int .i64 who, .int .u8 (op : Int), .slice A n c, .int .i64 x] W (StE w0 s b bw X k v l nx' E W)) ∧
      (∀ W B A c A1 n1 c1 es, DocR W dp (s :: b :: bw :: X) v A1 n1 c1 es dc → es.map KV.ent = l → (∀ y ∈ dp :: s :: b :: bw :: X, y < W.heap.size) → Arg W B A n c zs → B ≤ W.heap.size → Calls Try.prog 37 #[.pointer (some ⟨dp, 0, none⟩), .int .i64 who, .int .u8 (op : Int), .slice A n c, .int .i64 x] W (DtE s b bw dp X v l nx' E W)) := by
  by_cases h0 : rightV who op n x = 0
  · obtain ⟨_, hb, h1, h4, ht, hn⟩ : rightV who op n x = 0 ∧ inB who 64 = true ∧ 1 ≤ op ∧ op ≤ 4 ∧ (op = 2 ∨ op = 3 → isTick x = true) ∧ n ≤ 256 := by
      rcases rightV_cases who op n x with ⟨e, _⟩ | ⟨e, _⟩ | h
      · omega
      · omega
      · exact h
    have hw := inB_iff.mp hb
    obtain ⟨i, hi⟩ : ∃ i : Nat, (i : Int) = who := ⟨who.toNat, by omega⟩
    have hi64 : i < 64 := by omega
    have hr := hrel i hi64
    rcases hp : isNx (nx i) with _ | _
    · have hnn : nx i = .none := by cases hx : nx i <;> simp [isNx, hx] at hp ⊢
      have hq : (dc i).op = 0 := by rw [hnn] at hr; exact hr
      refine ⟨0, updF nx i (.read op zs x), fun W A c hs ha => ?_, fun W B A c A1 n1 c1 es hd he hlt ha hB => ?_⟩
      · rw [← hi]
        exact startC w0 W s b bw X k v l nx hs i hi64 hnn op h1 h4 A n c zs ha hn x (fun h => isTick_iff.mp (ht h))
      · refine (docStart_ok W dp v n1 c1 A1 dc hd.blk who op A n c x h0 i hi64 hi.symm hq B zs ha hB hn).mono fun e w' ⟨A', c', h1', h2', h3', h4'⟩ => ⟨h1', ⟨A1, n1, c1, es, updF dc i ⟨op, A', n, c', zs, x, 0⟩, ⟨?_, he⟩, fun j hj => ?_⟩, h4'⟩
        · have hS : Off (dp :: s :: b :: bw :: X) W w' := h4'.mono (by intro x hx; simp only [List.mem_cons, List.not_mem_nil, or_false] at hx ⊢; exact .inl hx)
          refine ⟨h2', (hd.ver.off (Nat.le_refl _) hS).more hS.size, hd.wf, fun j hj => ?_⟩
          by_cases hji : j = i
          · subst hji; rw [updF_same]; exact ⟨h3'.arg, h3'.apt hlt, hn⟩
          · rw [updF_other _ _ _ _ hji]; exact ⟨((hd.key j hj).1.off (Nat.le_refl _) hS (hd.key j hj).2.1).more hS.size, (hd.key j hj).2⟩
        · by_cases hji : j = i
          · subst hji; rw [updF_same, updF_same]; exact ⟨rfl, rfl, rfl, rfl, ⟨h1, h4, fun h => isTick_iff.mp (ht h), by rw [ha.len]; exact hn⟩⟩
          · rw [updF_other _ _ _ _ hji, updF_other _ _ _ _ hji]; exact hrel j hj
    · refine ⟨9, nx, fun W A c hs ha => ?_, fun W B A c A1 n1 c1 es hd he hlt ha hB => ?_⟩
      · have hP := pendC w0 W s b bw X k v l nx hs i hi64 _ rfl
        rw [hp] at hP
        have key : Calls Try.prog 36 #[.pointer (some ⟨s, 0, none⟩), .int .i64 who, .int .u8 (op : Int), .slice A n c, .int .i64 x] W fun e w' => e = .returned (.int .i64 9) ∧ W = w' := by
          subst hi
          rcases (by omega : op = 2 ∨ op = 3 ∨ (op = 1 ∨ op = 4)) with e | e | e
          · exact start_busy_a W s i op A n c x hb e (ht (.inl e)) hn (Lib.hid hP)
          · exact start_busy_b W s i op A n c x hb e (ht (.inr e)) hn (Lib.hid hP)
          · exact start_busy_c W s i op A n c x hb e hn (Lib.hid hP)
        exact key.mono fun e w' ⟨h1', h2'⟩ => ⟨h1', h2' ▸ hs, h2' ▸ Off.refl _ _⟩
      · have hq := hr.is
        rw [hp] at hq
        have hq1 : 1 ≤ (dc i).op := by simp at hq; omega
        exact (docStart_busy W dp who op A n c x h0 i (dc i).op hi64 hi.symm (hd.k0 hi64) hq1).mono fun e w' ⟨h1', h2'⟩ => ⟨h1', ⟨A1, n1, c1, es, dc, ⟨h2' ▸ hd, he⟩, hrel⟩, h2' ▸ Off.refl _ _⟩
  · exact ⟨rightV who op n x, nx, fun W A c hs ha => (start_wrong W _ who op A n c x h0).mono fun e w' ⟨h1', h2'⟩ => ⟨h1', h2' ▸ hs, h2' ▸ Off.refl _ _⟩,
      fun W B A c A1 n1 c1 es hd he hlt ha hB => (docStart_wrong W _ who op A n c x h0).mono fun e w' ⟨h1', h2'⟩ => ⟨h1', ⟨A1, n1, c1, es, dc, ⟨h2' ▸ hd, he⟩, hrel⟩, h2' ▸ Off.refl _ _⟩⟩

def SpE (w0 : World) (s b bw : Nat) (X : List Nat) (k v : Nat) (l : List Ent) (nx : Nat → Nx) (d : Bool) (E N f : Int) (w : World) (e : Ending) (w' : World) : Prop :=
  e = .returned (.tuple #[.agg #[.bool d, .int .i64 E, .int .i64 N], .int .i64 f]) ∧ ShC w0 w' s b bw X k v l nx ∧ Off [s, b, bw] w w'
def DpE (s b bw dp : Nat) (X : List Nat) (v : Nat) (l : List Ent) (nx : Nat → Nx) (d : Bool) (E N f : Int) (w : World) (e : Ending) (w' : World) : Prop :=
  e = .returned (.tuple #[.agg #[.bool d, .int .i64 E, .int .i64 N], .int .i64 f]) ∧ (∃ A n c es dc, (DocR w' dp (s :: b :: bw :: X) v A n c es dc ∧ es.map KV.ent = l) ∧ ∀ j, j < 64 → dcG v l (dc j) (nx j)) ∧ Off [dp] w w'
/-- Step of both: the same answer, and both are alike behind it. -/
theorem steps_any (w0 : World) (s b bw dp : Nat) (X : List Nat) (k v : Nat) (l : List Ent) (nx : Nat → Nx) (dc : Nat → DcC) (hrel : ∀ j, j < 64 → dcG v l (dc j) (nx j)) (hk : k < 4611686018427387904) (hvk : v ≤ k) (hv1 : 1 ≤ v) (who : Int) :
    ∃ (d : Bool) (E N f : Int) (k' v' : Nat) (l' : List Ent) (nx' : Nat → Nx), k' ≤ k + 1 ∧ (∀ W, ShC w0 W s b bw X k v l nx → Calls Try.prog 39 #[.pointer (some ⟨s, 0, none⟩), .int .i64 who] W (SpE w0 s b bw X k' v' l' nx' d E N f W)) ∧
      (∀ W A1 n1 c1 es, DocR W dp (s :: b :: bw :: X) v A1 n1 c1 es dc → es.map KV.ent = l → (∀ y ∈ dp :: s :: b :: bw :: X, y < W.heap.size) → Calls Try.prog 40 #[.pointer (some ⟨dp, 0, none⟩), .int .i64 who] W (DpE s b bw dp X v' l' nx' d E N f W)) := by
  rcases hb : inB who 64 with _ | _
  · refine ⟨false, 0, 0, 1, k, v, l, nx, by omega, fun W hs => ?_, fun W A1 n1 c1 es hd he hlt => ?_⟩
    · exact (step_bad W _ who hb).mono fun e w' ⟨h1, h2⟩ => ⟨h1, hs.below h2, Off.of_below h2⟩
    · exact (docStep_bad W _ who hb).mono fun e w' ⟨h1, h2⟩ => ⟨h1, ⟨A1, n1, c1, es, dc, ⟨hd.below h2, he⟩, hrel⟩, Off.of_below h2⟩
  · have hw := inB_iff.mp hb
    obtain ⟨i, hi⟩ : ∃ i : Nat, (i : Int) = who := ⟨who.toNat, by omega⟩
    have hi64 : i < 64 := by omega
    subst hi
    have hr := hrel i hi64
    rcases hp : isNx (nx i) with _ | _
    · refine ⟨false, 0, 0, 7, k, v, l, nx, by omega, fun W hs => ?_, fun W A1 n1 c1 es hd he hlt => ?_⟩
      · exact (step_none W _ _ hb (Lib.hid fun w' h' => by have := pendC w0 w' s b bw X k v l nx (hs.below h') i hi64 _ rfl; rw [hp] at this; exact this)).mono fun e w' ⟨h1, h2⟩ => ⟨h1, hs.below h2, Off.of_below h2⟩
      · have hq := hr.is
        rw [hp] at hq
        have hq0 : (dc i).op = 0 := by simpa using hq
        have hc := hd.k0 hi64
        rw [hq0] at hc
        exact (docStep_no W dp i hi64 hc hd.lt).mono fun e w' ⟨h1, h2⟩ => ⟨h1, ⟨A1, n1, c1, es, dc, ⟨hd.below h2, he⟩, hrel⟩, Off.of_below h2⟩
    · obtain ⟨t, ht⟩ : ∃ t, stepX v l (nx i) = t := ⟨_, rfl⟩
      refine ⟨t.q.d, t.q.E, t.q.N, 0, k + 1, t.v, t.l, updF nx i t.y, Nat.le_refl _, fun W hs => ?_, fun W A1 n1 c1 es hd he hlt => ?_⟩
      · exact stepC w0 W s b bw X k v l nx hs (by omega) i hi64 _ rfl hp t ht
      · subst he
        obtain ⟨dc', hC, hg, ho, hvl⟩ := docStep_any W dp _ v n1 c1 A1 es dc hd hlt i hi64 (nx i) hr hp hv1 (by omega) t ht
        refine hC.mono fun e w' ⟨h1, ⟨A2, n2, c2, es2, h2, h3⟩, h4⟩ => ⟨h1, ⟨A2, n2, c2, es2, dc', ⟨h2, h3⟩, fun j hj => ?_⟩, h4⟩
        by_cases hji : j = i
        · subst hji; rw [updF_same]; exact hg
        · rw [updF_other _ _ _ _ hji, ho j hji]; exact (hrel j hj).on hvl
/-- Pending of both. -/
theorem pends_any (w0 : World) (s b bw dp : Nat) (X : List Nat) (k v : Nat) (l : List Ent) (nx : Nat → Nx) (dc : Nat → DcC) (hrel : ∀ j, j < 64 → dcG v l (dc j) (nx j)) (who : Int) :
    ∃ p : Bool, (∀ W, ShC w0 W s b bw X k v l nx → Calls Try.prog 43 #[.pointer (some ⟨s, 0, none⟩), .int .i64 who] W fun e w' => e = .returned (.bool p) ∧ W = w') ∧
      (∀ W A1 n1 c1 es, DocR W dp (s :: b :: bw :: X) v A1 n1 c1 es dc → Calls Try.prog 44 #[.pointer (some ⟨dp, 0, none⟩), .int .i64 who] W fun e w' => e = .returned (.bool p) ∧ W = w') := by
  rcases hb : inB who 64 with _ | _
  · exact ⟨false, fun W hs => sPend_bad W s who hb, fun W A1 n1 c1 es hd => pend14_bad W _ who hb ⟨dp, rfl⟩⟩
  · have hw := inB_iff.mp hb
    obtain ⟨i, hi⟩ : ∃ i : Nat, (i : Int) = who := ⟨who.toNat, by omega⟩
    have hi64 : i < 64 := by omega
    subst hi
    refine ⟨isNx (nx i), fun W hs => pendC w0 W s b bw X k v l nx hs i hi64 _ rfl, fun W A1 n1 c1 es hd => ?_⟩
    have := pend14_any W dp (dc i).op i hi64 (hd.k0 hi64)
    rw [(hrel i hi64).is] at this
    exact this
end Go.Proofs.Ytpjgpiiibgogeaa


/- ShardPlays: memory that the law writes itself: bytes, entries; Start's region. -/
namespace Go.Proofs.Ytpjgpiiibgogeaa
open Go.RowKit
set_option maxRecDepth 100000
set_option linter.unusedVariables false

/-- A block of bytes, whatever they are. -/
structure ByS (w : World) (g m : Nat) : Prop where
  lt : g < w.heap.size
  cell : ∀ j, j < m → ∃ b : Nat, b < 256 ∧ w.cell? ⟨g, j, none⟩ = some (.int .u8 (b : Int))
  froz : ∀ j, j < m → w.frozen? ⟨g, j, none⟩ = false
theorem OwnB.bys {w : World} {B n c : Nat} {A : Option Addr} {xs : List Nat} (h : OwnB w B A n c xs) (hn : 0 < n) : ∃ g, A = some ⟨g, 0, none⟩ ∧ B ≤ g ∧ ByS w g n := by
  have hl := h.len
  have hlt := h.1.lt
  have hA : ∃ g, A = some ⟨g, 0, none⟩ := by
    rcases h.1.2 with ⟨h1, h2⟩ | ⟨g, cap, cur, h1, h2, h3⟩
    · have := h.1.1
      simp only [h2, Nat.mul_one] at this
      omega
    · injection h1 with h1; exact ⟨g, h1⟩
  obtain ⟨g, rfl⟩ := hA
  have hg := hlt g rfl
  refine ⟨g, rfl, hg.1, hg.2, fun j hj => ?_, fun j hj => World.ownsRow.frozenAt h.1 j⟩
  have hc := World.ownsRow.cellAt h.1 j (by omega)
  have hj' : j < xs.length := by omega
  rw [List.getElem?_map, List.getElem?_eq_getElem hj'] at hc
  exact ⟨xs[j], h.2 _ (List.getElem_mem hj'), hc⟩
theorem ByS.setB {w : World} {g m g' o b : Nat} (h : ByS w g m) (hb : b < 256) : ByS (w.setCell ⟨g', o, none⟩ (.int .u8 (b : Int))) g m := by
  refine ⟨by simpa using h.lt, fun j hj => ?_, fun j hj => by simpa using h.froz j hj⟩
  by_cases e : g' = g ∧ o = j
  · obtain ⟨rfl, rfl⟩ := e
    obtain ⟨b0, _, h0⟩ := h.cell o hj
    exact ⟨b, hb, World.cell?_setCell_same _ _ _ h0⟩
  · obtain ⟨b0, h1, h0⟩ := h.cell j hj
    exact ⟨b0, h1, (World.cell?_setCell_other _ _ _ _ (by intro h; injection h with h2 h3; exact e ⟨h2, h3⟩)).trans h0⟩
theorem ByS.setV {w : World} {g m g' o : Nat} {u : Value} (h : ByS w g m) (hg : g' ≠ g) : ByS (w.setCell ⟨g', o, none⟩ u) g m := by
  refine ⟨by simpa using h.lt, fun j hj => ?_, fun j hj => by simpa using h.froz j hj⟩
  obtain ⟨b0, h1, h0⟩ := h.cell j hj
  exact ⟨b0, h1, (World.cell?_setCell_other _ _ _ _ (by intro h; injection h with h2 h3; exact hg h2)).trans h0⟩
theorem ByS.below {w w' : World} {g m : Nat} (h : ByS w g m) (hb : Below w.heap.size w w') : ByS w' g m := by
  refine ⟨Nat.lt_of_lt_of_le h.lt hb.size, fun j hj => ?_, fun j hj => (hb.frozen (p := ⟨g, j, none⟩) h.lt).trans (h.froz j hj)⟩
  obtain ⟨b0, h1, h0⟩ := h.cell j hj
  exact ⟨b0, h1, (hb.cell (p := ⟨g, j, none⟩) h.lt).trans h0⟩
/-- The entries that Entries answered, as the law overwrites them: in a block gl, from block E on. -/
structure EnM (w : World) (E gl n : Nat) (es : List KV) : Prop where
  lt : gl < w.heap.size
  ge : E ≤ gl
  cell : ∀ j, j < n → w.cell? ⟨gl, j * 2, none⟩ = some (.slice (es.getD j noKV).A (es.getD j noKV).n (es.getD j noKV).c) ∧ ∃ z : Int, w.cell? ⟨gl, j * 2 + 1, none⟩ = some (.int .i64 z)
  froz : ∀ j, j < n * 2 → w.frozen? ⟨gl, j, none⟩ = false
  key : ∀ j, j < n → (es.getD j noKV).n = 0 ∨ ∃ g, (es.getD j noKV).A = some ⟨g, 0, none⟩ ∧ E ≤ g ∧ ByS w g (es.getD j noKV).n
  kn : ∀ j, j < n → (es.getD j noKV).n ≤ 256
theorem EnM.ne {w : World} {E gl n g m : Nat} {es : List KV} (h : EnM w E gl n es) (hn : 0 < n) (hb : ByS w g m) (hm : 0 < m) : gl ≠ g := by
  intro e
  obtain ⟨b, _, h0⟩ := hb.cell 0 hm
  have h1 := (h.cell 0 hn).1
  rw [Nat.zero_mul, e, h0] at h1
  cases h1
theorem EnM.val {w : World} {E gl n j : Nat} {es : List KV} (h : EnM w E gl n es) (hj : j < n) (z : Int) : EnM (w.setCell ⟨gl, j * 2 + 1, none⟩ (.int .i64 z)) E gl n es := by
  refine ⟨by simpa using h.lt, h.ge, fun i hi => ⟨?_, ?_⟩, fun i hi => by simpa using h.froz i hi, fun i hi => ?_, h.kn⟩
  · exact (World.cell?_setCell_other _ _ _ _ (by intro h; injection h with h2 h3; omega)).trans (h.cell i hi).1
  · by_cases e : i = j
    · subst e
      obtain ⟨z0, h0⟩ := (h.cell i hi).2
      exact ⟨z, World.cell?_setCell_same _ _ _ h0⟩
    · obtain ⟨z0, h0⟩ := (h.cell i hi).2
      exact ⟨z0, (World.cell?_setCell_other _ _ _ _ (by intro h; injection h with h2 h3; omega)).trans h0⟩
  · rcases h.key i hi with e | ⟨g, e1, e2, e3⟩
    · exact .inl e
    · by_cases hz : (es.getD i noKV).n = 0
      · exact .inl hz
      · exact .inr ⟨g, e1, e2, e3.setV (h.ne (by omega) e3 (by omega))⟩
theorem EnM.byte {w : World} {E gl n g o b : Nat} {es : List KV} (h : EnM w E gl n es) (hg : gl ≠ g) (hb : b < 256) : EnM (w.setCell ⟨g, o, none⟩ (.int .u8 (b : Int))) E gl n es := by
  refine ⟨by simpa using h.lt, h.ge, fun i hi => ⟨?_, ?_⟩, fun i hi => by simpa using h.froz i hi, fun i hi => ?_, h.kn⟩
  · exact (World.cell?_setCell_other _ _ _ _ (by intro h; injection h with h2 h3; exact hg h2.symm)).trans (h.cell i hi).1
  · obtain ⟨z0, h0⟩ := (h.cell i hi).2
    exact ⟨z0, (World.cell?_setCell_other _ _ _ _ (by intro h; injection h with h2 h3; exact hg h2.symm)).trans h0⟩
  · rcases h.key i hi with e | ⟨g1, e1, e2, e3⟩
    · exact .inl e
    · exact .inr ⟨g1, e1, e2, e3.setB hb⟩
theorem OwnC.enM {w : World} {E n c : Nat} {A : Option Addr} {es : List KV} (h : OwnC w E TE 2 A n c (KVs es)) (hn : 0 < n) (hk : ∀ e ∈ es, OwnB w E e.A e.n e.c e.zs ∧ e.n ≤ 256) : ∃ gl, A = some ⟨gl, 0, none⟩ ∧ EnM w E gl n es := by
  have hl := h.1
  rw [KVs_len] at hl
  have hA : ∃ g, A = some ⟨g, 0, none⟩ := by
    rcases h.2 with ⟨h1, h2⟩ | ⟨g, cap, cur, h1, h2, h3⟩
    · omega
    · injection h1 with h1; exact ⟨g, h1⟩
  obtain ⟨g, rfl⟩ := hA
  have hg := World.ownsRow.lt h g rfl
  refine ⟨g, rfl, hg.2, hg.1, fun j hj => ?_, fun j hj => World.ownsRow.frozenAt h j, fun j hj => ?_, fun j hj => (hk _ (kv_mem (es := es) (i := j) (by omega))).2⟩
  · have e := KVs_at es j (by omega)
    exact ⟨(World.ownsRow.cellAt h (j * 2) (by omega)).trans e.1, ⟨_, (World.ownsRow.cellAt h (j * 2 + 1) (by omega)).trans e.2⟩⟩
  · have hm := hk _ (kv_mem (es := es) (i := j) (by omega))
    rcases Nat.eq_zero_or_pos (es.getD j noKV).n with hz | hz
    · exact .inl hz
    · obtain ⟨g1, e1, e2, e3⟩ := hm.1.bys hz
      exact .inr ⟨g1, e1, e2, e3⟩
theorem EnM.below {w w' : World} {E gl n : Nat} {es : List KV} (h : EnM w E gl n es) (hb : Below w.heap.size w w') : EnM w' E gl n es := by
  refine ⟨Nat.lt_of_lt_of_le h.lt hb.size, h.ge, fun i hi => ⟨?_, ?_⟩, fun i hi => (hb.frozen (p := ⟨gl, i, none⟩) h.lt).trans (h.froz i hi), fun i hi => ?_, h.kn⟩
  · exact (hb.cell (p := ⟨gl, i * 2, none⟩) h.lt).trans (h.cell i hi).1
  · obtain ⟨z0, h0⟩ := (h.cell i hi).2
    exact ⟨z0, (hb.cell (p := ⟨gl, i * 2 + 1, none⟩) h.lt).trans h0⟩
  · rcases h.key i hi with e | ⟨g1, e1, e2, e3⟩
    · exact .inl e
    · exact .inr ⟨g1, e1, e2, e3.below hb⟩
theorem entsC (w0 w : World) (s b bw : Nat) (X : List Nat) (k v : Nat) (l : List Ent) (nx : Nat → Nx) (h : ShC w0 w s b bw X k v l nx) : Calls Try.prog 42 #[.pointer (some ⟨s, 0, none⟩)] w (EntEnd w l) := by
  obtain ⟨A, n, c, es, fv, ring, rfl, hr⟩ := h.sh
  exact entries_any w s b bw X k v A n c es fv nx ring hr

/-- The region of Start: the program's shard, the document's, the call's block, the copy of its key. -/
structure StA (w W : World) (s b bw dp : Nat) (X : List Nat) (k v : Nat) (l : List Ent) (nx : Nat → Nx) (dc : Nat → DcC) (P : Nat) (ps : List Value) (B : Nat) (F : Option Addr) (m d : Nat) (fz : List Nat) : Prop where
  sh : ShC w W s b bw X k v l nx
  dr : ∃ A n c es, DocR W dp (s :: b :: bw :: X) v A n c es dc ∧ es.map KV.ent = l
  kp : BlkL W P ps
  fo : OwnB W B F m d fz
  lt : B ≤ W.heap.size
structure StC (w W : World) (s b bw dp : Nat) (X : List Nat) (k v : Nat) (l : List Ent) (nx : Nat → Nx) (P : Nat) (ps : List Value) (B : Nat) (F : Option Addr) (m d : Nat) (fz : List Nat) : Prop where
  sh : ShC w W s b bw X k v l nx
  dr : ∃ A n c es dc, (DocR W dp (s :: b :: bw :: X) v A n c es dc ∧ es.map KV.ent = l) ∧ ∀ j, j < 64 → dcG v l (dc j) (nx j)
  kp : BlkL W P ps
  fo : OwnB W B F m d fz
theorem OwnB.off {w w' : World} {B n c : Nat} {A : Option Addr} {xs : List Nat} {S : List Nat} (h : OwnB w B A n c xs) (hf : Off S w w') (hS : Apt S A n) (hn : 0 < n) : OwnB w' B A n c xs := by
  refine ⟨⟨h.1.1, ?_⟩, h.2⟩
  rcases h.1.2 with ⟨h1, h2⟩ | ⟨g, cap, cur, h1, h2, h3, h4⟩
  · exact .inl ⟨h1, h2⟩
  · refine .inr ⟨g, cap, cur, h1, h2, ?_, h4⟩
    have hlt : g < w.heap.size := (h.1.lt g (by rw [h1]; rfl)).2
    have hA : A = some ⟨g, 0, none⟩ := by injection h1
    exact (hf.block g hlt (hS hn _ hA)).trans h3
end Go.Proofs.Ytpjgpiiibgogeaa
