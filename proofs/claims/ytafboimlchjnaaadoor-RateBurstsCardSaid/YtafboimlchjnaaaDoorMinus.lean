/- Contract: Minus of the document's numbers. -/
import Derived.Test.YtafboimlchjnaaaDoorPlus
namespace Go.Proofs.YtafboimlchjnaaaDoor
open Go.RowKit
set_option maxRecDepth 100000

/-- One digit of a list put anew. -/
theorem val_set (cs : List Nat) (k v : Nat) (hk : k < cs.length) : Mth.val (cs.set k v) + 4294967296 ^ k * cs.getD k 0 = Mth.val cs + 4294967296 ^ k * v := by
  induction cs generalizing k with
  | nil => simp at hk
  | cons d l ih =>
    rcases k with _ | k
    · simp [Mth.val, List.getD]; omega
    · have h := ih k (by simpa using hk)
      simp only [List.set_cons_succ, Mth.val, Nat.pow_succ, List.getD_cons_succ]
      have e : 4294967296 * (Mth.val (l.set k v) + 4294967296 ^ k * l.getD k 0) = 4294967296 * (Mth.val l + 4294967296 ^ k * v) := by rw [h]
      rw [Nat.mul_add, Nat.mul_add] at e
      have e1 : 4294967296 ^ k * 4294967296 * l.getD k 0 = 4294967296 * (4294967296 ^ k * l.getD k 0) := by rw [Nat.mul_comm (4294967296 ^ k), Nat.mul_assoc]
      have e2 : 4294967296 ^ k * 4294967296 * v = 4294967296 * (4294967296 ^ k * v) := by rw [Nat.mul_comm (4294967296 ^ k), Nat.mul_assoc]
      omega

theorem mem_set_lt (cs : List Nat) (k v : Nat) (h : ∀ d ∈ cs, d < 4294967296) (hv : v < 4294967296) : ∀ d ∈ cs.set k v, d < 4294967296 := by
  intro d hd
  rcases List.mem_or_eq_of_mem_set hd with hd | rfl
  · exact h d hd
  · exact hv

theorem getD_set_ne (cs : List Nat) (k j v : Nat) (h : k ≠ j) : (cs.set k v).getD j 0 = cs.getD j 0 := by
  simp [List.getD_eq_getElem?_getD, h]

theorem getD_set_eq (cs : List Nat) (k v : Nat) (h : k < cs.length) : (cs.set k v).getD k 0 = v := by
  simp [List.getD_eq_getElem?_getD, h]

theorem set_U (cs : List Nat) (k v : Nat) : (cs.map U).set k (U v) = (cs.set k v).map U := by
  rw [List.map_set]

/-- A store into a row of one's own. -/
theorem Own.stored {w : World} {B g n c : Nat} {xs : List Nat} (h : Own w B (some ⟨g, 0, none⟩) n c xs) (k v : Nat) :
    Own (w.setCell ⟨g, k, none⟩ (U v)) B (some ⟨g, 0, none⟩) n c (xs.set k v) := by
  have := (World.ownsRow.stored (w := w) h k (U v)).1
  unfold Own
  rw [← set_U]
  exact this

/-- What Minus has done before its round i. -/
def MinusRel (xs ys cs : List Nat) (i bo : Nat) : Prop :=
  cs.length = xs.length ∧ (∀ d ∈ cs, d < 4294967296) ∧ bo ≤ 1 ∧ Mth.val (cs.take i) + Mth.val (ys.take i) = Mth.val (xs.take i) + 4294967296 ^ i * bo

theorem take_set_self (cs : List Nat) (i v : Nat) (h : i < cs.length) : Mth.val ((cs.set i v).take (i + 1)) = Mth.val (cs.take i) + 4294967296 ^ i * v := by
  rw [Mth.take_succ_getD _ _ (by simpa using h), getD_set_eq cs i v h, Mth.val_snoc, List.take_set_of_le (Nat.le_refl _), List.length_take, Nat.min_eq_left (by omega)]

theorem MinusRel.step {xs ys cs : List Nat} {i bo : Nat} (h : MinusRel xs ys cs i bo) (hx : ∀ d ∈ xs, d < 4294967296) (hy : ∀ d ∈ ys, d < 4294967296) (hi : i < xs.length) :
    MinusRel xs ys (cs.set i ((xs.getD i 0 + 4294967296 - bo - ys.getD i 0) % 4294967296)) (i + 1) (1 - (xs.getD i 0 + 4294967296 - bo - ys.getD i 0) / 4294967296) := by
  obtain ⟨h1, h2, h3, h4⟩ := h
  have gx := getD_lt xs hx i
  have gy := getD_lt ys hy i
  refine ⟨by simpa using h1, mem_set_lt cs _ _ h2 (by omega), by omega, ?_⟩
  rw [take_set_self cs i _ (by omega), take_val_succ, take_val_succ, Nat.pow_succ]
  generalize xs.getD i 0 = x at *
  generalize ys.getD i 0 = y at *
  generalize 4294967296 ^ i = p at *
  have e : (x + 4294967296 - bo - y) % 4294967296 + y + bo = x + 4294967296 * (1 - (x + 4294967296 - bo - y) / 4294967296) := by omega
  have e2 : p * ((x + 4294967296 - bo - y) % 4294967296 + y + bo) = p * (x + 4294967296 * (1 - (x + 4294967296 - bo - y) / 4294967296)) := by rw [e]
  rw [Nat.mul_add, Nat.mul_add, Nat.mul_add, ← Nat.mul_assoc] at e2
  omega

theorem MinusRel.done {xs ys cs : List Nat} {bo N M : Nat} (h : MinusRel xs ys cs xs.length bo) (hx : Mth.Lo xs N) (hy : Mth.Lo ys M) (hl : ys.length ≤ xs.length) (hle : M ≤ N) : Mth.Lo cs (N - M) := by
  obtain ⟨h1, h2, h3, h4⟩ := h
  rw [List.take_of_length_le (by omega), List.take_of_length_le hl, List.take_of_length_le (Nat.le_refl _), hx.2, hy.2] at h4
  have hlt := Mth.val_lt h2
  rw [h1] at hlt
  have hb : bo = 0 := by
    rcases Nat.eq_zero_or_pos bo with h | h
    · exact h
    · have : 4294967296 ^ xs.length * 1 ≤ 4294967296 ^ xs.length * bo := Nat.mul_le_mul_left _ h
      omega
  rw [hb] at h4
  exact ⟨h2, by omega⟩

def MinusInv (w : World) (xs ys : List Nat) (g n : Nat) (bv kv : Value) (wr : World) : Prop :=
  ∃ (i bo : Nat) (cs : List Nat), kv = .int .i64 (i : Int) ∧ bv = .int .u64 (bo : Int) ∧ Own wr w.heap.size (some ⟨g, 0, none⟩) n n cs ∧ MinusRel xs ys cs i bo ∧ Below w.heap.size w wr ∧ i ≤ n

theorem Own.frozen {w : World} {B g n c : Nat} {xs : List Nat} (h : Own w B (some ⟨g, 0, none⟩) n c xs) (k : Nat) : w.frozen? ⟨g, k, none⟩ = false := World.ownsRow.frozenAt h k

theorem Own.cell {w : World} {B g n c : Nat} {xs : List Nat} (h : Own w B (some ⟨g, 0, none⟩) n c xs) {k : Nat} (hk : k < n) : w.cell? ⟨g, k, none⟩ = some (U (xs.getD k 0)) := by
  obtain ⟨g', e, _, _, hc⟩ := h.at_ hk
  simp only [Option.some.injEq, Addr.mk.injEq, and_true] at e
  rw [e]; exact hc

theorem Own.made {w1 : World} {B g n : Nat} (h : w1.ownsRow B 22 1 (.slice (some ⟨g, 0, none⟩) n n) n (madeCells #[.int .u64 0] n).toList) : Own w1 B (some ⟨g, 0, none⟩) n n (List.replicate n 0) := by
  rw [toList_madeCells_one] at h
  unfold Own
  rw [List.map_replicate]
  exact h

set_option maxHeartbeats 1600000 in
theorem minus_any (w : World) (A B : Option Addr) (n m c d : Nat) (xs ys : List Nat) (N M : Nat) (hA : Num w A n c xs N) (hB : Num w B m d ys M) (hn : n ≤ 1048576) (hNM : M ≤ N) :
    Calls Tryd.prog 103 #[.slice A n c, .slice B m d] w (NumEnd w (N - M) n) := by
  obtain ⟨i0, hi, hz0, hz1, hz2⟩ := info_parts u64_info
  have hxl := hA.own.len
  have hyl := hB.own.len
  have hx := hA.dig.1.1
  have hy := hB.dig.1.1
  have hmn : m ≤ n := by
    rcases Nat.lt_or_ge n m with h | h
    · have := Mth.Dig.lt_of_len hA.dig hB.dig (by omega); omega
    · exact h
  go_enter Tryd.func103, Tryd.ntmps103
  go_wp2_with (refine wpList_make_full _ rfl (.tmp 10) (.tmp 10) _ rfl w.heap.size 22 i0 (.int .u64 0) 1 Tryd.underlying87 hi hz0 hz1 .i64 .i64 _ _ n rfl rfl rfl rfl (by rw [hz2]; omega) (by unfold maxLen; omega) (Nat.le_refl _) ?_)
  intro w1 hown1 hgrow1
  have ho := Own.made hown1
  have hb1 : Below w.heap.size w w1 := (Below.refl _ _).grown hgrow1 (Nat.le_refl _) (by simp)
  have hrel0 : MinusRel xs ys (List.replicate n 0) 0 0 := ⟨by simp [hxl], fun d hd => by rw [(List.mem_replicate.1 hd).2]; omega, by omega, by simp [Mth.val]⟩
  have HO := Lib.hid ho
  have HB1 := Lib.hid hb1
  have HR := Lib.hid hrel0
  clear ho hb1 hrel0 hown1 hgrow1
  go_wp2
  go_loopw [6, 14] (fun bv kv wr => MinusInv w xs ys w.heap.size n bv kv wr) (fun _ kv _ => n - (intOf kv).toNat)
  case atStart => exact ⟨0, 0, _, rfl, rfl, HO.out, HR.out, HB1.out, by omega⟩
  case round =>
    obtain ⟨i, bo, cs, rfl, rfl, hown, hrel', hbel, hin⟩ := hrel
    have hbo := hrel'.2.2.1
    have hcl := hown.len
    have HA := Lib.hid (hA.below hbel)
    have HB := Lib.hid (hB.below hbel)
    have HREL := Lib.hid hrel'
    have HBEL := Lib.hid hbel
    have hsz := hbel.size
    clear hbel HO HB1 HR
    rcases Nat.lt_or_ge i n with h1 | h1
    · have hst := hrel'.step hx hy (by omega)
      have hpy := getD_past ys i
      have hgx := getD_lt xs hx i
      have hgy := getD_lt ys hy i
      have hci := hown.cell (k := i) h1
      have hfi := hown.frozen i
      have hos := hown.stored i ((xs.getD i 0 + 4294967296 - bo - ys.getD i 0) % 4294967296)
      rw [hyl] at hpy
      have HXL := Lib.hid hxl
      have HYL := Lib.hid hyl
      have HCL := Lib.hid hcl
      clear hrel' hown hxl hyl hcl
      obtain ⟨g1, rfl, _, _, hc1⟩ := HA.out.own.at_ (k := i) h1
      rcases Nat.lt_or_ge i m with h2 | h2
      · obtain ⟨g2, rfl, _, _, hc2⟩ := HB.out.own.at_ (k := i) h2
        clear hpy
        generalize xs.getD i 0 = x at hc1 hst hgx hos
        generalize ys.getD i 0 = y at hc2 hst hgy hos
        have HST := Lib.hid hst
        have HOS := Lib.hid hos
        clear hst hos
        go_wp2
        go_roundw
        case rel =>
          have e : ((x : Int) + 4294967296 - bo - y) % 4294967296 = (((x + 4294967296 - bo - y) % 4294967296 : Nat) : Int) := by omega
          rw [e]
          exact ⟨i + 1, _, _, by go_num, by go_num, HOS.out, HST.out, HBEL.out.setCell (Nat.le_refl _) _, by omega⟩
        case measure => simp [intOf]; omega
      · rw [hpy h2] at hst hos hgy
        clear hpy
        generalize xs.getD i 0 = x at hc1 hst hgx hos
        have HST := Lib.hid hst
        have HOS := Lib.hid hos
        clear hst hos
        go_wp2
        go_roundw
        case rel =>
          have e : ((x : Int) + 4294967296 - bo) % 4294967296 = (((x + 4294967296 - bo - 0) % 4294967296 : Nat) : Int) := by omega
          rw [e]
          exact ⟨i + 1, _, _, by go_num, by go_num, HOS.out, HST.out, HBEL.out.setCell (Nat.le_refl _) _, by omega⟩
        case measure => simp [intOf]; omega
    · obtain rfl : i = n := by omega
      have hlo := MinusRel.done (N := N) (M := M) (by rw [hxl]; exact hrel') hA.dig.1 hB.dig.1 (by omega) hNM
      have HLO := Lib.hid hlo
      have HOWN := Lib.hid hown
      clear hlo hrel' hown hxl hyl hcl
      go_wp2_with fail
      refine (norm_any _ w.heap.size _ _ _ _ _ HOWN.out HLO.out).mono ?_
      rintro e w2 ⟨⟨k, hk, rfl, hown2, hd2⟩, rfl⟩
      have HE : Hid (NumEnd w (N - M) i (.returned (.slice (some ⟨w.heap.size, 0, none⟩) k i)) wr) := ⟨_, _, _, _, rfl, ⟨hown2.mono (Nat.zero_le _), hd2⟩, hk, HBEL.out⟩
      clear hown2 hd2
      go_wp2
      go_ret
      exact HE.out
end Go.Proofs.YtafboimlchjnaaaDoor
