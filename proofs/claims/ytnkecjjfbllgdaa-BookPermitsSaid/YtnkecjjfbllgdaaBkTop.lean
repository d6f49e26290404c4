/- Do of a book in memory, whole: evict, split, fitted calls; New; the first examples; scripts of asks. -/
import Derived.Test.YtnkecjjfbllgdaaBkS
import Derived.Maps.RangeWalk
import Derived.IntWalk
import Derived.Test.YtnkecjjfbllgdaaTick
import Derived.Test.YtnkecjjfbllgdaaComp
import Derived.Carry
import Derived.Lib.SlBytesConst
import Derived.WalkKit
import Derived.ProofKit
import Derived.OpenShut
import Derived.SizedLaws
import Derived.Deep.SlicePairs
import Derived.Test.YtnkecjjfbllgdaaBytes

/- evict: what is idle is struck. -/
namespace Go.Proofs.Ytnkecjjfbllgdaa
open Go.RowKit Go.Maps
set_option maxRecDepth 100000
set_option linter.unusedVariables false

def idleB (c : CelM) (now : Nat) : Bool := decide (c.tat ≤ now) && decide (c.held.length = 0)
/-- The map as it stands while it is gone through: what is still to come is there; of the rest what isn't idle. -/
def midB (M : BkMap) (now : Nat) (left : Lit → Bool) : BkMap := fun z => match M z with
  | some c => if left (keyL z) = true ∨ idleB c now = false then some c else none
  | none => none
def evictB (M : BkMap) (now : Nat) : BkMap := fun z => match M z with
  | some c => if idleB c now = false then some c else none
  | none => none
section
variable {w : World} {D : DataW Value} {M : BkMap} {now : Nat} {left : Lit → Bool}
theorem midB_some {z : List Nat} {c : CelM} (h : midB M now left z = some c) : M z = some c ∧ (left (keyL z) = true ∨ idleB c now = false) := by
  unfold midB at h
  split at h
  · rename_i c' hc
    split at h
    · rename_i hh
      cases h
      exact ⟨hc, hh⟩
    · cases h
  · cases h
theorem MapR.congr {M' : BkMap} (h : MapR w D M) (e : ∀ z, (∀ d ∈ z, d < 256) → M' z = M z) (hb : ∀ z c, M' z = some c → ∀ d ∈ z, d < 256) : MapR w D M' :=
  ⟨fun z hz hn => h.no z hz (by rw [← e z hz]; exact hn), fun z c hc => h.yes z c (by rw [← e z (hb z c hc)]; exact hc)⟩
theorem MapR.del (h : MapR w D M) (hM : ∀ y c, M y = some c → ∀ d ∈ y, d < 256) {z : List Nat} (hz : ∀ d ∈ z, d < 256) : MapR w (D.del (keyL z)) (fun y => if y = z then none else M y) := by
  refine ⟨fun y hy hno => ?_, fun y c hc => ?_⟩
  · by_cases e : y = z
    · rw [e]; exact has_del_same
    · rw [has_del_other (fun hk => e (keyL_inj hy hz hk))]
      rw [if_neg e] at hno
      exact h.no y hy hno
  · by_cases e : y = z
    · rw [if_pos e] at hc; cases hc
    · rw [if_neg e] at hc
      obtain ⟨h1, A', n', k', h2, h3⟩ := h.yes y c hc
      have hne : keyL y ≠ keyL z := fun hk => e (keyL_inj (hM y c hc) hz hk)
      exact ⟨by rw [has_del_other hne]; exact h1, A', n', k', fun zd => by rw [atKey_del_other hne]; exact h2 zd, h3⟩
end
theorem key_inv {key : Value} {kl : Lit} (h : keyOf Try.prog 9 key = some kl) : ∃ z : List Nat, (∀ d ∈ z, d < 256) ∧ key = .string (bytesArr z) ∧ kl = keyL z := by
  have hs : ∃ s, key = .string s ∧ kl = .string s.data.toList := by
    cases key <;> simp [keyOf, mapKey, Try.underlying9] at h
    rename_i s
    exact ⟨s, rfl, h.2.symm⟩
  obtain ⟨s, rfl, rfl⟩ := hs
  refine ⟨s.data.toList.map UInt8.toNat, fun d hd => ?_, ?_, ?_⟩
  · obtain ⟨u, _, rfl⟩ := List.mem_map.1 hd
    exact u.toNat_lt
  · unfold bytesArr
    rw [List.map_map]
    have : (fun d => UInt8.ofNat d) ∘ UInt8.toNat = id := by funext u; simp
    rw [this, List.map_id]
  · unfold keyL
    rw [List.map_map]
    have : (fun d => UInt8.ofNat d) ∘ UInt8.toNat = id := by funext u; simp
    rw [this, List.map_id]

set_option maxHeartbeats 800000 in
theorem evict1_any (w : World) (s : ByteArray) (tat now : Int) (A : Option Addr) (n k bp : Nat) (hnow : now ≤ 4611686018427387903) (hc : w.cell? ⟨bp, 0, none⟩ = some (.int .i64 now)) (hb : bp < w.heap.size) :
    Calls Try.prog 51 #[.string s, .agg #[.int .i64 tat, .slice A n k], .pointer (some ⟨bp, 0, none⟩)] w (ValEnd w (.bool (decide (tat ≤ now) && decide (n = 0)))) := by
  have HI := Lib.hid (fun w => cIdle_any w tat now A n k hnow)
  generalize (decide (tat ≤ now) && decide (n = 0)) = r at HI ⊢
  go_enter Try.func51, Try.ntmps51
  go_wp2_with fail
  with_reducible refine (HI.out _).mono ?_
  rintro e w1 ⟨rfl, hb1⟩
  have HB := Lib.hid ((below_a1 w _).trans (hb1.mono (by simp)))
  clear hb1
  go_wp2
  go_ret
  exact ⟨rfl, HB.out⟩
theorem grown_of_below {w w' : World} (h : Below w.heap.size w w') : w.grownBy w' none := ⟨h.os, h.tape, h.output, h.size, fun i hi _ => h.block i hi⟩
theorem ArgI.offc {w w' : World} {x B n c : Nat} {A : Option Addr} {zs : List Int} (h : ArgI w B A n c zs) (hB : B ≤ w.heap.size) (hx : ∀ p v, w.cell? p = some v → p.block ≠ x) (hg : w.grownBy w' (some x)) : ArgI w' w'.heap.size A n c zs :=
  ⟨h.len, h.le, h.cap, h.none_, fun hn => by
    obtain ⟨b, off, e, hb, hc⟩ := h.at_ hn
    have hne : b ≠ x := hx ⟨b, off + 0, none⟩ _ (hc 0 hn)
    exact ⟨b, off, e, Nat.lt_of_lt_of_le (Nat.lt_of_lt_of_le hb hB) hg.size, fun k hk => (World.cell?_of_block (w := w) (a := ⟨b, off + k, none⟩) (hg.block b (Nat.lt_of_lt_of_le hb hB) (by simpa using hne))).trans (hc k hk)⟩⟩
theorem MapR.offc {w w' : World} {x : Nat} {D : DataW Value} {M : BkMap} (h : MapR w D M) (hx : ∀ p v, w.cell? p = some v → p.block ≠ x) (hg : w.grownBy w' (some x)) : MapR w' D M :=
  ⟨h.no, fun z c hz => by
    obtain ⟨h1, A, n, k, h2, h3, h4⟩ := h.yes z c hz
    exact ⟨h1, A, n, k, h2, h3.offc (Nat.le_refl _) hx hg, h4⟩⟩
theorem iter_ne {w : World} {mb r n cnt : Nat} {D : DataW Value} {left : Lit → Bool} (h : w.ranges Try.prog 9 RV mb r n D left cnt) : ∀ p v, w.cell? p = some v → p.block ≠ r := by
  intro p v hp e
  obtain ⟨es, clock, since, seen, c0, hb, F, hs, hD, hr, _⟩ := h
  unfold World.cell? at hp
  rw [e, hr] at hp
  cases hp
theorem Off.grown {w w' : World} {mb r : Nat} {w0 : World} (h : Off [mb] w0 w) (hg : w.grownBy w' (some r)) (hr : w0.heap.size ≤ r) : Off [mb] w0 w' :=
  ⟨hg.os.trans h.os, hg.tape.trans h.tape, hg.output.trans h.output, Nat.le_trans h.size hg.size, fun k hk hn => (hg.block k (Nat.lt_of_lt_of_le hk h.size) (fun e => by cases e; omega)).trans (h.block k hk hn)⟩

theorem mid_step {M : BkMap} {now : Nat} {left : Lit → Bool} {z : List Nat} {c : CelM} (hz : ∀ d ∈ z, d < 256) (hc : M z = some c) (hi : idleB c now = false) (y : List Nat) (hy : ∀ d ∈ y, d < 256) :
    midB M now (fun x => left x && !x.sameKey (keyL z)) y = midB M now left y := by
  unfold midB
  by_cases e : y = z
  · subst e
    rw [hc]
    simp [hi]
  · have hne := sameKey_ne (fun hk => e (keyL_inj hy hz hk))
    simp only [hne, Bool.not_false, Bool.and_true]
theorem mid_del {M : BkMap} {now : Nat} {left : Lit → Bool} {z : List Nat} {c : CelM} (hz : ∀ d ∈ z, d < 256) (hc : M z = some c) (hi : idleB c now = true) (y : List Nat) (hy : ∀ d ∈ y, d < 256) :
    midB M now (fun x => left x && !x.sameKey (keyL z)) y = (fun y => if y = z then none else midB M now left y) y := by
  unfold midB
  by_cases e : y = z
  · subst e
    rw [hc]
    simp [hi, WideAt.sameKey_self (keyLit y)]
  · have hne := sameKey_ne (fun hk => e (keyL_inj hy hz hk))
    simp [hne, e]
theorem mid_end {M : BkMap} {now : Nat} {left : Lit → Bool} (hl : ∀ kl, left kl = false) : midB M now left = evictB M now := by
  funext z
  unfold midB evictB
  split <;> simp [hl]
theorem mid_start {w : World} {D : DataW Value} {M : BkMap} {now : Nat} (h : MapR w D M) : midB M now (Maps.has D) = M := by
  funext z
  unfold midB
  rcases hm : M z with _ | c
  · rfl
  · simp [(h.yes z c hm).1]

set_option maxHeartbeats 6400000 in
theorem delFunc_any (w : World) (mb n bp now : Nat) (D0 : DataW Value) (M : BkMap) (hown : w.ownsMap Try.prog 9 RV mb n D0) (hM : MapR w D0 M) (hby : ∀ y c, M y = some c → ∀ d ∈ y, d < 256)
    (hc : w.cell? ⟨bp, 0, none⟩ = some (.int .i64 (now : Nat))) (hb : bp < w.heap.size) (hnow : now ≤ 4611686018427387903) :
    Calls Try.prog 50 #[.map (some mb), .func (.func 51) #[] #[.pointer (some ⟨bp, 0, none⟩)]] w
      fun e w' => e = .returned (.tuple #[]) ∧ ∃ D', w'.ownsMap Try.prog 9 RV mb n D' ∧ MapR w' D' (evictB M now) ∧ (∀ z c, evictB M now z = some c → ∀ zd, D'.atKey (keyL z) zd = D0.atKey (keyL z) zd) ∧ Off [mb] w w' := by
  have HM := Lib.hid hM
  have HBY := Lib.hid hby
  have hbm : bp ≠ mb := by
    obtain ⟨es, ck, hm⟩ := own_map hown
    exact cell_ne_map (p := ⟨bp, 0, none⟩) hc hm
  have HC := Lib.hid (And.intro hc (And.intro hb (And.intro hbm hown.lt)))
  clear hM hby hc hb hbm
  go_enter Try.func50, Try.ntmps50
  go_wp2_with (first
    | (at_range; refine wpList_range_own _ rfl _ 69 rfl 9 83 keyed Try.underlying69 _ mb n _ rfl hown ?_; intro w0 hrg0 hg0 hs0)
    | go_in)
  go_frame
  go_loopw [4, 5] (fun _ _ wr => ∃ (D : DataW Value) (left : Lit → Bool) (cnt : Nat), wr.ranges Try.prog 9 RV mb w.heap.size n D left cnt ∧ MapR wr D (midB M now left) ∧ (∀ z c, midB M now left z = some c → ∀ zd, D.atKey (keyL z) zd = D0.atKey (keyL z) zd) ∧ Off [mb] w wr)
    (fun _ _ wr => wr.rangeLeft mb w.heap.size)
  case atStart => exact ⟨D0, _, _, hrg0, by rw [mid_start HM.out]; exact HM.out.below ⟨hg0.os, hg0.tape, hg0.output, hg0.size, fun i hi => hg0.block i hi (by simp)⟩, fun _ _ _ _ => rfl, ⟨hg0.os, hg0.tape, hg0.output, hg0.size, fun i hi _ => hg0.block i hi (by simp)⟩⟩
  case round =>
    obtain ⟨D, left, cnt, hrg, hMr, hsame, hof⟩ := hrel
    go_wp2_with (first
      | (at_next; refine wpList_next_ranges _ rfl _ rfl 9 keyed RV Value.string (fun (v : Value) => v) (fun key kl hk => by obtain ⟨z, _, e, _⟩ := key_inv hk; exact ⟨_, e⟩) (fun v y _ => ⟨v, rfl⟩) mb w.heap.size n _ _ _ rfl hrg ?_ ?_)
      | go_in)
    · intro _ hl0
      go_wp2
      go_end0
      exact ⟨rfl, D, hrg.owns, by rw [← mid_end hl0]; exact hMr, by rw [← mid_end hl0]; exact hsame, hof⟩
    · intro x v kl yd yp w1 cnt1 hkey hlx hRv hyp hat hrg1 hlt hg1 hs1 hen
      obtain ⟨z, hz, ex, rfl⟩ := key_inv hkey
      injection ex with ex
      subst ex
      have hhas : Maps.has D (keyL z) = true := has_true_of_atKey hat
      rcases hm : midB M now left z with _ | c
      · rw [hMr.no z hz hm] at hhas; cases hhas
      obtain ⟨hMz, _⟩ := midB_some hm
      obtain ⟨_, A, n', k', h2, h3, h4⟩ := hMr.yes z c hm
      have hv : v = celV c A n' k' := by
        have e1 := (hat .nil).symm.trans (h2 .nil)
        rw [← hRv] at e1
        simpa using e1
      subst hv
      have hn' := h3.len
      have hby' : ∀ y c', midB M now left y = some c' → ∀ d ∈ y, d < 256 := fun y c' hy => HBY.out y c' (midB_some hy).1
      have hMr1 := hMr.offc (iter_ne hrg) hg1
      have hof1 := hof.grown hg1 (Nat.le_refl _)
      have hc1 := (hof1.cell (p := ⟨bp, 0, none⟩) HC.out.2.1 (by simpa using HC.out.2.2.1)).trans HC.out.1
      have hbl1 : bp < w1.heap.size := Nat.lt_of_lt_of_le HC.out.2.1 hof1.size
      have he := evict1_any (w1.alloc (.cells #[.int .i64 (c.tat : Nat), .slice A n' k'] 83)) (bytesArr z) (c.tat : Nat) (now : Nat) A n' k' bp (by omega) (((below_a1 w1 _).cell (p := ⟨bp, 0, none⟩) hbl1).trans hc1) (by simp; omega)
      have hiv : (decide (((c.tat : Nat) : Int) ≤ ((now : Nat) : Int)) && decide (n' = 0)) = idleB c now := by
        unfold idleB
        rw [hn']
        congr 1
        rw [Bool.eq_iff_iff]; simp
      rw [hiv] at he
      have HR := Lib.hid (And.intro hMr1 (And.intro hof1 hrg1))
      have HZ := Lib.hid (And.intro hz (And.intro hMz hkey))
      have HL := Lib.hid (And.intro hrg hlt)
      have HBY2 := Lib.hid hby'
      have HS := Lib.hid hsame
      rcases hid : idleB c now with _ | _
      all_goals
        rw [hid] at he
        have HE := Lib.hid he
        have HID := Lib.hid hid
        clear he hiv hid hMr hMr1 hof hof1 hrg hrg1 hg1 hs1 hlx hRv hyp hat hhas hm hMz h2 h3 h4 hn' hby' hc1 hbl1 hz hkey hlt hsame
        go_wp2_with fail
        refine HE.out.mono ?_
        rintro e w3 ⟨rfl, hb3⟩
        have hb13 := (below_a1 w1 (.cells #[.int .i64 (c.tat : Nat), .slice A n' k'] 83)).trans (hb3.mono (by simp))
        have hrg3 := HR.out.2.2.kept (grown_of_below hb13) (by simp) (by simp)
        have HM3 := Lib.hid (HR.out.1.below hb13)
        have HO3 := Lib.hid (HR.out.2.1.trans (Off.of_below (S := [mb]) hb13))
        clear hb3 hb13 HE
      · go_wp2
        go_roundw
        case rel => exact ⟨D, _, cnt1, hrg3, HM3.out.congr (mid_step HZ.out.1 HZ.out.2.1 HID.out) (fun y c' hy => HBY.out y c' (midB_some hy).1), (fun y c' hy => HS.out y c' (by rw [← mid_step HZ.out.1 HZ.out.2.1 HID.out y (HBY.out y c' (midB_some hy).1)]; exact hy)), HO3.out⟩
        case measure => rw [hrg3.left_eq, HL.out.1.left_eq]; exact HL.out.2
      · go_wp2_with (first
          | (at_delete; refine wpList_delete_ranges _ rfl _ _ 69 9 rfl 83 keyed Try.underlying69 RV mb w.heap.size n _ _ _ rfl hrg3 _ _ rfl HZ.out.2.2 ?_; intro w4 cnt2 hrg4 hle hturn; go_frame)
          | go_in)
        rw [strike_twice] at hrg4
        have hown3 := own_map hrg3.owns
        obtain ⟨es3, ck3, hm3⟩ := hown3
        go_roundw
        case rel => exact ⟨_, _, cnt2, hrg4, ((HM3.out.offm hm3 (Off.of_turned hturn)).del HBY2.out HZ.out.1).congr (mid_del HZ.out.1 HZ.out.2.1 HID.out) (fun y c' hy => HBY.out y c' (midB_some hy).1), (fun y c' hy => by
          have hy2 := hy
          rw [mid_del HZ.out.1 HZ.out.2.1 HID.out y (HBY.out y c' (midB_some hy).1)] at hy2
          by_cases e : y = z
          · simp [e] at hy2
          · simp only [if_neg e] at hy2
            intro zd
            rw [atKey_del_other (fun hk => e (keyL_inj (HBY.out y c' (midB_some hy).1) HZ.out.1 hk))]
            exact HS.out y c' hy2 zd), HO3.out.trans (Off.of_turned hturn)⟩
        case measure => rw [hrg4.left_eq, HL.out.1.left_eq]; have := HL.out.2; omega
end Go.Proofs.Ytnkecjjfbllgdaa


/- Do of Evict and of Split. -/
namespace Go.Proofs.Ytnkecjjfbllgdaa
open Go.RowKit Go.Maps
set_option maxRecDepth 100000
set_option linter.unusedVariables false

theorem evict_some {M : BkMap} {now : Nat} {z : List Nat} {c : CelM} (h : evictB M now z = some c) : M z = some c := by
  unfold evictB at h
  split at h
  · rename_i c' hc
    split at h
    · cases h; exact hc
    · cases h
  · cases h
section
variable {w w' w3 : World} {b n c room mb k now : Nat} {A : Option Addr} {l : List PolM} {M : BkMap}
theorem BkX.evicted (h : BkX w b A n c l room mb k M) {D0 D' : DataW Value} (h0 : w.ownsMap Try.prog 9 RV mb (Maps.size D0) D0) (hM0 : MapR w D0 M) {j : Nat} (h' : w'.ownsMap Try.prog 9 RV mb j D') (hM3 : MapR w3 D' (evictB M now))
    (hs : ∀ z c, evictB M now z = some c → ∀ zd, D'.atKey (keyL z) zd = D0.atKey (keyL z) zd) (hof : Off [mb] w w') : BkX w' b A n c l room mb (Maps.size D') (evictB M now) := by
  obtain ⟨es, ck, hm⟩ := own_map h0
  have hb2 : b ≠ mb := cell_ne_map (p := ⟨b, 0, none⟩) (h.r.blk.cell 0 _ rfl) hm
  refine ⟨⟨h.r.blk.off hof (by simpa using hb2), h.r.pol.offm (Nat.le_refl _) (by omega) hm hof, h.r.okp, h.r.len, h.r.room, ⟨D', own_tight h', Nat.le_refl _, hM3.no, fun z cc hz => ?_⟩, fun z cc hz => h.r.inf z cc (evict_some hz)⟩, ⟨D', own_tight h', rfl⟩⟩
  obtain ⟨_, A', n', k', g2, g3, g4⟩ := hM0.yes z cc (evict_some hz)
  exact ⟨(hM3.yes z cc hz).1, A', n', k', fun zd => (hs z cc hz zd).trans (g2 zd), g3.offm (Nat.le_refl _) hm hof, g4⟩
end

set_option maxHeartbeats 3200000 in
theorem bevict_any (w : World) (b n c room mb k now : Nat) (A : Option Addr) (l : List PolM) (M : BkMap) (h : BkX w b A n c l room mb k M) (hk : k ≤ 1000000) (hnow : now ≤ 4611686018427387903) :
    Calls Try.prog 34 #[.pointer (some ⟨b, 0, none⟩), .int .i64 (now : Nat)] w
      fun e w' => ∃ k' D0 D' w3, k' ≤ k ∧ e = .returned (.agg #[.int .i64 0, .bool false, .int .i64 ((k : Int) - (k' : Int)), .int .i64 0, .int .i64 0, .int .i64 (now : Nat)]) ∧ w.ownsMap Try.prog 9 RV mb (Maps.size D0) D0 ∧ MapR w D0 M ∧ w'.ownsMap Try.prog 9 RV mb k' D' ∧ Maps.size D' = k' ∧ MapR w3 D' (evictB M now) ∧ (∀ z c, evictB M now z = some c → ∀ zd, D'.atKey (keyL z) zd = D0.atKey (keyL z) zd) ∧ Off [mb] w w' := by
  obtain ⟨D0, hown, _, hM⟩ := h.r.map
  have hsz : Maps.size D0 = k := by
    obtain ⟨D', h1, h2⟩ := h.e
    rw [own_uniq hown h1]
    exact h2
  have hlt := hown.lt
  have hfr := below_a2 w (.cells #[.int .i64 (now : Nat)] 2) (.cells #[.int .i64 0, .bool false, .int .i64 0, .int .i64 0, .int .i64 0, .int .i64 0] 42)
  have hb2 : b ≠ mb := by
    obtain ⟨es, ck, hm⟩ := own_map hown
    exact cell_ne_map (p := ⟨b, 0, none⟩) (h.r.blk.cell 0 _ rfl) hm
  have hown1 := own_below hown hfr
  have hdf := delFunc_any _ mb _ w.heap.size now D0 M hown1 (hM.below hfr) h.r.bytes ((((BlkL.new w [.int .i64 (now : Nat)] 2).alloc (.cells #[.int .i64 0, .bool false, .int .i64 0, .int .i64 0, .int .i64 0, .int .i64 0] 42)).cell 0 _ rfl)) (by simp; omega) hnow
  have hlen := fun ty => hown1.len Try.underlying69 ty
  have kb := h.r.blk.below hfr
  have kn := (BlkL.new w [.int .i64 (now : Nat)] 2).alloc (.cells #[.int .i64 0, .bool false, .int .i64 0, .int .i64 0, .int .i64 0, .int .i64 0] 42)
  have kr := BlkL.new (w.alloc (.cells #[.int .i64 (now : Nat)] 2)) [.int .i64 0, .bool false, .int .i64 0, .int .i64 0, .int .i64 0, .int .i64 0] 42
  simp only [World.size_alloc, List.toArray] at kr kn
  rw [hsz] at hlen
  have HF := Lib.hid hdf
  have HH := Lib.hid (And.intro hown (And.intro hM (And.intro hsz (And.intro hlt (And.intro hb2 hfr)))))
  have n2 := kb.cell 2 _ rfl
  have KB := Lib.hid kb
  have KN := Lib.hid kn
  have KR := Lib.hid kr
  clear h hown hM hsz hlt hfr hb2 hown1 hdf kb kn kr
  go_enter Try.func34, Try.ntmps34
  go_wp2_with fail
  refine HF.out.mono ?_
  rintro e w3 ⟨rfl, D', hown', hM3, hsame, hof⟩
  have hk' : Maps.size D' ≤ k := by have := hown'.size_le; have := HH.out.2.2.1; omega
  have kb := KB.out.off hof (by simpa using HH.out.2.2.2.2.1)
  have kn := KN.out.off hof (by have := HH.out.2.2.2.1; simp; omega)
  have kr := KR.out.off hof (by have := HH.out.2.2.2.1; simp; omega)
  have HOF := Lib.hid ((Off.of_below (S := [mb]) HH.out.2.2.2.2.2).trans hof)
  have HX := Lib.hid (And.intro hown' (And.intro hM3 hsame))
  have hlen3 := fun ty => (show (World.drew w3).ownsMap Try.prog 9 RV mb _ D' from hown').len Try.underlying69 ty
  clear n2 hlen HF KB KN hof hown' hM3 hsame
  generalize hkk : Maps.size D' = k' at hlen3 hk'
  have HKK := Lib.hid hkk
  have hw : IntKind.i64.wrap ((k : Int) - (k' : Int)) = (k : Int) - (k' : Int) := IntWalk.i64_in _ (by omega)
  have n2 := kb.cell 2 _ rfl
  have m0 := kn.cell 0 _ rfl
  have d0 := kr.cell 0 _ rfl
  have d1 := kr.cell 1 _ rfl
  have d2 := kr.cell 2 _ rfl
  have d3 := kr.cell 3 _ rfl
  have d4 := kr.cell 4 _ rfl
  have d5 := kr.cell 5 _ rfl
  have f0 := kr.froz 0 (by simp)
  have f1 := kr.froz 1 (by simp)
  have f2 := kr.froz 2 (by simp)
  have f3 := kr.froz 3 (by simp)
  have f4 := kr.froz 4 (by simp)
  have f5 := kr.froz 5 (by simp)
  have K9 := Lib.hid kr
  clear kb kn kr hkk KR
  go_wp2_with fail
  go_region
  all_goals
    have hne : mb ≠ w.heap.size + 1 := by have := HH.out.2.2.2.1; omega
    have bz := (K9.out.put6 (.int .i64 0) (.bool false) (.int .i64 ((k : Int) - (k' : Int))) (.int .i64 0) (.int .i64 0) (.int .i64 (now : Nat))).drew
    have hoz := ((((((HOF.out.setNew (p := ⟨w.heap.size + 1, 0, none⟩) (by simp) (.int .i64 0)).setNew (p := ⟨w.heap.size + 1, 1, none⟩) (by simp) (.bool false)).setNew (p := ⟨w.heap.size + 1, 2, none⟩) (by simp) (.int .i64 ((k : Int) - (k' : Int)))).setNew (p := ⟨w.heap.size + 1, 3, none⟩) (by simp) (.int .i64 0)).setNew (p := ⟨w.heap.size + 1, 4, none⟩) (by simp) (.int .i64 0)).setNew (p := ⟨w.heap.size + 1, 5, none⟩) (by simp) (.int .i64 (now : Nat))).drew
    have howz := World.ownsMap.drew ((((((HX.out.1.setCell (a := ⟨w.heap.size + 1, 0, none⟩) hne (.int .i64 0)).setCell (a := ⟨w.heap.size + 1, 1, none⟩) hne (.bool false)).setCell (a := ⟨w.heap.size + 1, 2, none⟩) hne (.int .i64 ((k : Int) - (k' : Int)))).setCell (a := ⟨w.heap.size + 1, 3, none⟩) hne (.int .i64 0)).setCell (a := ⟨w.heap.size + 1, 4, none⟩) hne (.int .i64 0)).setCell (a := ⟨w.heap.size + 1, 5, none⟩) hne (.int .i64 (now : Nat)))
    have e0 := bz.cell 0 _ rfl
    have e1 := bz.cell 1 _ rfl
    have e2 := bz.cell 2 _ rfl
    have e3 := bz.cell 3 _ rfl
    have e4 := bz.cell 4 _ rfl
    have e5 := bz.cell 5 _ rfl
    clear bz n2 m0 d0 d1 d2 d3 d4 d5 f0 f1 f2 f3 f4 f5 K9 hlen3 hw hne
    generalize World.drew _ = WZ at e0 e1 e2 e3 e4 e5 hoz howz ⊢
    go_wp2_with fail
    exact bodyPost_ret (v := .agg #[.int .i64 0, .bool false, .int .i64 ((k : Int) - (k' : Int)), .int .i64 0, .int .i64 0, .int .i64 (now : Nat)]) (by simp [results, Try.results34, go_sem, e0, e1, e2, e3, e4, e5]) rfl
      ⟨k', D0, D', w3, hk', rfl, HH.out.1, HH.out.2.1, (by have := own_tight howz; rw [HKK.out] at this; exact this), HKK.out, HX.out.2.1, HX.out.2.2, hoz⟩
end Go.Proofs.Ytnkecjjfbllgdaa


/- Do of Evict and of Split, whole. -/
namespace Go.Proofs.Ytnkecjjfbllgdaa
open Go.RowKit Go.Maps
set_option maxRecDepth 100000
set_option linter.unusedVariables false

theorem check_free {w : World} {b n c room mb k : Nat} {A : Option Addr} {l : List PolM} {M : BkMap} (hX : BkX w b A n c l room mb k M) (op : Nat) (ho : op = 5 ∨ op = 6) (q N s : Int) (KA : Option Addr) (kn kc now : Nat) (hnow : now ≤ 4611686018427387903) :
    ∀ W, Below w.heap.size w W → Calls Try.prog 33 #[.pointer (some ⟨b, 0, none⟩), .agg #[.int .u8 (op : Nat), .int .i64 q, .slice KA kn kc, .int .i64 N], .int .i64 (now : Nat), .int .i64 s] W fun e w' => e = .returned (.int .i64 0) ∧ Below W.heap.size W w' := fun W hW => by
  have hc0 : chkC l op q kn N = 0 := by
    unfold chkC
    rw [if_neg (by omega), if_pos (by omega)]
  have hT : isTick (now : Int) = true := isTick_iff.2 (by omega)
  refine bcheck_ok W b n c op kn kc _ KA q N (now : Nat) s 0 room mb (hX.r.blk.below hW) (Lib.hid fun W => by rw [← hT]; exact bTick_any W _) (fun e2 => by omega) (Lib.hid fun W2 h2 => ?_)
  have := checkCall_any W2 w.heap.size _ KA n c kn kc op l q N (hX.r.pol.below (hW.trans (h2.mono hW.size))) (hW.trans (h2.mono hW.size)).size
  rw [hc0] at this
  exact this

set_option maxHeartbeats 3200000 in
theorem book_evict (w : World) (b n c room mb k kn kc now : Nat) (A KA : Option Addr) (l : List PolM) (M : BkMap) (q N s : Int) (hX : BkX w b A n c l room mb k M) (hnow : now ≤ 4611686018427387903) (hk : k ≤ 1000000) :
    Calls Try.prog 18 #[.pointer (some ⟨b, 0, none⟩), .agg #[.int .u8 5, .int .i64 q, .slice KA kn kc, .int .i64 N], .int .i64 (now : Nat), .int .i64 s] w
      fun e w' => ∃ k', k' ≤ k ∧ e = .returned (.agg #[.int .i64 0, .bool false, .int .i64 ((k : Int) - (k' : Int)), .int .i64 0, .int .i64 0, .int .i64 (now : Nat)]) ∧ BkX w' b A n c l room mb k' (evictB M now) ∧ Off [mb] w w' := by
  have HC := Lib.hid (show ∀ W, Below w.heap.size w W → Calls Try.prog 33 #[.pointer (some ⟨b, 0, none⟩), .agg #[.int .u8 5, .int .i64 q, .slice KA kn kc, .int .i64 N], .int .i64 (now : Nat), .int .i64 s] W fun e w' => e = .returned (.int .i64 0) ∧ Below W.heap.size W w' from check_free hX 5 (.inl rfl) q N s KA kn kc now hnow)
  have HD := Lib.hid (fun W (hW : Below w.heap.size w W) => bevict_any W b n c room mb k now A l M (hX.below hW) hk hnow)
  have HX0 := Lib.hid hX
  have hmlt := hX.lt
  have hne : mb ≠ w.heap.size + 1 := by omega
  clear hX
  go_enter Try.func18, Try.ntmps18
  go_wp2_with fail
  with_reducible refine (HC.out _ (below_a2 _ _ _)).mono ?_
  rintro e w1 ⟨rfl, hb⟩
  have b0 := ((BlkL.new w [.int .u8 5, .int .i64 q, .slice KA kn kc, .int .i64 N] 25).alloc _).below hb
  have b1 := (BlkL.new _ [.int .i64 0, .bool false, .int .i64 0, .int .i64 0, .int .i64 0, .int .i64 0] 42).below hb
  simp only [World.size_alloc] at b1
  have HB1 := Lib.hid ((below_a2 w _ _).trans (hb.mono (by simp; omega)))
  clear hb
  have a0 := b0.cell 0 _ rfl
  have a1 := b0.cell 1 _ rfl
  have a2 := b0.cell 2 _ rfl
  have a3 := b0.cell 3 _ rfl
  have K1 := Lib.hid b1
  clear b0 b1
  go_wp2_with fail
  refine (HD.out _ HB1.out).mono ?_
  rintro e w2 ⟨k', D0, D', w3, hk', rfl, hd0, hM0, hd', hsz', hM3, hsame, hof⟩
  have k1 := K1.out.off hof (by simpa using Ne.symm hne)
  have HOF := Lib.hid ((Off.of_below (S := [mb]) HB1.out).trans hof)
  have HX := Lib.hid (And.intro hd' (And.intro hM3 (And.intro hsame (And.intro hsz' hd0))))
  clear hof hd0 hM0 hd' hsz' hM3 hsame a0 a1 a2 a3
  have d0 := k1.cell 0 _ rfl
  have d1 := k1.cell 1 _ rfl
  have d2 := k1.cell 2 _ rfl
  have d3 := k1.cell 3 _ rfl
  have d4 := k1.cell 4 _ rfl
  have d5 := k1.cell 5 _ rfl
  have f0 := k1.froz 0 (by simp)
  have f1 := k1.froz 1 (by simp)
  have f2 := k1.froz 2 (by simp)
  have f3 := k1.froz 3 (by simp)
  have f4 := k1.froz 4 (by simp)
  have f5 := k1.froz 5 (by simp)
  have K9 := Lib.hid k1
  clear k1
  go_wp2_with fail
  have bz := K9.out.put6 (.int .i64 0) (.bool false) (.int .i64 ((k : Int) - (k' : Int))) (.int .i64 0) (.int .i64 0) (.int .i64 (now : Nat))
  have hoz := ((((((HOF.out.setNew (p := ⟨w.heap.size + 1, 0, none⟩) (by simp) (.int .i64 0)).setNew (p := ⟨w.heap.size + 1, 1, none⟩) (by simp) (.bool false)).setNew (p := ⟨w.heap.size + 1, 2, none⟩) (by simp) (.int .i64 ((k : Int) - (k' : Int)))).setNew (p := ⟨w.heap.size + 1, 3, none⟩) (by simp) (.int .i64 0)).setNew (p := ⟨w.heap.size + 1, 4, none⟩) (by simp) (.int .i64 0)).setNew (p := ⟨w.heap.size + 1, 5, none⟩) (by simp) (.int .i64 (now : Nat)))
  have howz := ((((((HX.out.1.setCell (a := ⟨w.heap.size + 1, 0, none⟩) hne (.int .i64 0)).setCell (a := ⟨w.heap.size + 1, 1, none⟩) hne (.bool false)).setCell (a := ⟨w.heap.size + 1, 2, none⟩) hne (.int .i64 ((k : Int) - (k' : Int)))).setCell (a := ⟨w.heap.size + 1, 3, none⟩) hne (.int .i64 0)).setCell (a := ⟨w.heap.size + 1, 4, none⟩) hne (.int .i64 0)).setCell (a := ⟨w.heap.size + 1, 5, none⟩) hne (.int .i64 (now : Nat)))
  have e0 := bz.cell 0 _ rfl
  have e1 := bz.cell 1 _ rfl
  have e2 := bz.cell 2 _ rfl
  have e3 := bz.cell 3 _ rfl
  have e4 := bz.cell 4 _ rfl
  have e5 := bz.cell 5 _ rfl
  clear bz K9 K1 d0 d1 d2 d3 d4 d5 f0 f1 f2 f3 f4 f5
  generalize World.setCell _ _ _ = WZ at e0 e1 e2 e3 e4 e5 hoz howz ⊢
  obtain ⟨Dw, hdw, _, hMw⟩ := HX0.out.r.map
  have hDD : Dw = _ := own_uniq (own_below hdw HB1.out) HX.out.2.2.2.2
  subst hDD
  have hfin := HX0.out.evicted hdw hMw howz HX.out.2.1 HX.out.2.2.1 hoz
  rw [HX.out.2.2.2.1] at hfin
  exact bodyPost_ret (v := .agg #[.int .i64 0, .bool false, .int .i64 ((k : Int) - (k' : Int)), .int .i64 0, .int .i64 0, .int .i64 (now : Nat)]) (by simp [results, Try.results18, go_sem, e0, e1, e2, e3, e4, e5]) rfl ⟨k', hk', rfl, hfin, hoz⟩

set_option maxHeartbeats 3200000 in
theorem book_split (w : World) (b n c room mb k kn kc now : Nat) (A KA : Option Addr) (l : List PolM) (M : BkMap) (q N s : Int) (hX : BkX w b A n c l room mb k M) (hnow : now ≤ 4611686018427387903) :
    Calls Try.prog 18 #[.pointer (some ⟨b, 0, none⟩), .agg #[.int .u8 6, .int .i64 q, .slice KA kn kc, .int .i64 N], .int .i64 (now : Nat), .int .i64 s] w
      fun e w' => e = .returned (.agg #[.int .i64 0, .bool false, .int .i64 0, .int .i64 0, .int .i64 0, .int .i64 0]) ∧ Below w.heap.size w w' := by
  have HC := Lib.hid (show ∀ W, Below w.heap.size w W → Calls Try.prog 33 #[.pointer (some ⟨b, 0, none⟩), .agg #[.int .u8 6, .int .i64 q, .slice KA kn kc, .int .i64 N], .int .i64 (now : Nat), .int .i64 s] W fun e w' => e = .returned (.int .i64 0) ∧ Below W.heap.size W w' from check_free hX 6 (.inr rfl) q N s KA kn kc now hnow)
  clear hX
  go_enter Try.func18, Try.ntmps18
  go_wp2_with fail
  with_reducible refine (HC.out _ (below_a2 _ _ _)).mono ?_
  rintro e w1 ⟨rfl, hb⟩
  have b0 := ((BlkL.new w [.int .u8 6, .int .i64 q, .slice KA kn kc, .int .i64 N] 25).alloc _).below hb
  have b1 := (BlkL.new _ [.int .i64 0, .bool false, .int .i64 0, .int .i64 0, .int .i64 0, .int .i64 0] 42).below hb
  simp only [World.size_alloc] at b1
  have HB2 := Lib.hid ((below_a2 w _ _).trans (hb.mono (by simp; omega)))
  clear hb
  have a0 := b0.cell 0 _ rfl
  have d0 := b1.cell 0 _ rfl
  have d1 := b1.cell 1 _ rfl
  have d2 := b1.cell 2 _ rfl
  have d3 := b1.cell 3 _ rfl
  have d4 := b1.cell 4 _ rfl
  have d5 := b1.cell 5 _ rfl
  have f0 := b1.froz 0 (by simp)
  have f1 := b1.froz 1 (by simp)
  have f2 := b1.froz 2 (by simp)
  have f3 := b1.froz 3 (by simp)
  have f4 := b1.froz 4 (by simp)
  have f5 := b1.froz 5 (by simp)
  have K9 := Lib.hid b1
  clear b0 b1
  go_wp2_with fail
  have bz := K9.out.put6 (.int .i64 0) (.bool false) (.int .i64 0) (.int .i64 0) (.int .i64 0) (.int .i64 0)
  have hb := below_put6 HB2.out (b := w.heap.size + 1) (by omega) (.int .i64 0) (.bool false) (.int .i64 0) (.int .i64 0) (.int .i64 0) (.int .i64 0)
  have e0 := bz.cell 0 _ rfl
  have e1 := bz.cell 1 _ rfl
  have e2 := bz.cell 2 _ rfl
  have e3 := bz.cell 3 _ rfl
  have e4 := bz.cell 4 _ rfl
  have e5 := bz.cell 5 _ rfl
  clear bz K9 HB2 a0 d0 d1 d2 d3 d4 d5 f0 f1 f2 f3 f4 f5
  generalize World.setCell _ _ _ = WZ at e0 e1 e2 e3 e4 e5 hb ⊢
  exact bodyPost_ret (v := .agg #[.int .i64 0, .bool false, .int .i64 0, .int .i64 0, .int .i64 0, .int .i64 0]) (by simp [results, Try.results18, go_sem, e0, e1, e2, e3, e4, e5]) rfl ⟨rfl, hb⟩
end Go.Proofs.Ytnkecjjfbllgdaa


/- The law TickClamps, and the contracts of the document's Clamp and of the law's awake. -/
namespace Go.Proofs.Ytnkecjjfbllgdaa
open Go.RowKit
set_option maxRecDepth 100000

theorem heldV_clamp (m : Nat) : heldV m = clampV (m : Int) := by
  unfold heldV clampV
  split <;> split <;> try split
  all_goals omega

set_option maxHeartbeats 400000 in
theorem rclamp_any (w : World) (a : Int) (h : a ≤ 9223372036854775807) : Calls Try.prog 24 #[.int .i64 a] w fun e w' => e = .returned (.int .i64 (clampV a)) ∧ Below w.heap.size w w' := by
  rcases Int.lt_or_le a 0 with h1 | h1
  · have HD := Lib.hid (clampV_lo h1)
    go_enter Try.func24, Try.ntmps24
    go_wp2
    go_ret
    exact ⟨by rw [HD.out]; rfl, Below.refl _ _⟩
  · obtain ⟨m, rfl⟩ := Int.eq_ofNat_of_zero_le h1
    have HD := Lib.hid (heldV_clamp m)
    go_enter Try.func24, Try.ntmps24
    go_wp2_with fail
    refine (word_any _ m (by omega)).mono ?_
    rintro e w1 ⟨A, n, c, xs, rfl, hnum, _, hb⟩
    go_wp2_with fail
    refine (held_any _ _ _ _ _ m hnum).mono ?_
    rintro e w2 ⟨rfl, rfl⟩
    go_wp2
    go_ret
    exact ⟨by rw [← HD.out]; rfl, hb⟩

end Go.Proofs.Ytnkecjjfbllgdaa


/- fit: a call out of any. -/
namespace Go.Proofs.Ytnkecjjfbllgdaa
open Go.RowKit
set_option maxRecDepth 100000
set_option linter.unusedVariables false

set_option maxHeartbeats 3200000 in
theorem fit_1 (w : World) (q N now s N' now' s' cs : Int) (A : Option Addr) (n c m : Nat)
    (hm : (if (n : Int) < 2 then (n : Int) else 2) = (m : Int)) (hm2 : (if (2 : Int) < (n : Int) then (2 : Int) else (n : Int)) = (m : Int)) (m0 : (0 : Int) ≤ (m : Int)) (mc : (m : Int) ≤ (c : Int)) (mc' : m ≤ c)
    (hs : (if cs < 1 then 1 else cs) = s') (hs2 : (if 1 < cs then cs else 1) = s')
    (HN : Hid (∀ w, Calls Try.prog 24 #[.int .i64 N] w fun e w' => e = .returned (.int .i64 N') ∧ Below w.heap.size w w'))
    (HW : Hid (∀ w, Calls Try.prog 24 #[.int .i64 now] w fun e w' => e = .returned (.int .i64 now') ∧ Below w.heap.size w w'))
    (HS : Hid (∀ w, Calls Try.prog 24 #[.int .i64 s] w fun e w' => e = .returned (.int .i64 cs) ∧ Below w.heap.size w w')) :
    Calls Try.prog 17 #[.agg #[.int .u8 1, .int .i64 q, .slice A n c, .int .i64 N, .int .i64 now, .int .i64 s]] w (ValEnd w (.agg #[.int .u8 1, .int .i64 0, .slice A m c, .int .i64 N', .int .i64 now', .int .i64 s'])) := by
  go_enter Try.func17, Try.ntmps17
  go_wp2_with fail
  with_reducible refine (HN.out _).mono ?_
  rintro e w0 ⟨rfl, hb⟩
  have k0 := ((BlkL.new w [.int .u8 1, .int .i64 0, .slice A m c, .int .i64 N, .int .i64 now, .int .i64 s] 39).alloc _).below hb
  have k1 := (BlkL.new _ [.int .u8 0, .int .i64 0, .slice none 0 0, .int .i64 0, .int .i64 0, .int .i64 0] 39).below hb
  simp only [World.size_alloc] at k1
  have HB := Lib.hid ((below_a2 w _ _).trans (hb.mono (by simp; omega)))
  clear hb
  have c0 := k0.cell 0 _ rfl
  have c1 := k0.cell 1 _ rfl
  have c2 := k0.cell 2 _ rfl
  have c3 := k0.cell 3 _ rfl
  have c4 := k0.cell 4 _ rfl
  have c5 := k0.cell 5 _ rfl
  have f3 := k0.froz 3 (by simp)
  have f4 := k0.froz 4 (by simp)
  have f5 := k0.froz 5 (by simp)
  have l0 := k0.lt
  have K0 := Lib.hid k0
  have K1 := Lib.hid k1
  clear k0 k1
  go_wp2_with fail
  with_reducible refine (HW.out _).mono ?_
  rintro e w1 ⟨rfl, hb⟩
  have k0 := (K0.out.set 3 (.int .i64 N') (by simp)).below hb
  have k1 := (K1.out.other w.heap.size 3 (.int .i64 N') (by omega)).below hb
  simp only [List.set_cons_zero, List.set_cons_succ] at k0
  have hb9 := (HB.out.setCell (p := ⟨w.heap.size, 3, none⟩) (Nat.le_refl _) (.int .i64 N')).trans (hb.mono (by have := HB.out.size; simpa [World.setCell] using this))
  clear hb HB K0 K1 c0 c1 c2 c3 c4 c5 f3 f4 f5 l0
  have HB := Lib.hid hb9
  clear hb9
  have c0 := k0.cell 0 _ rfl
  have c1 := k0.cell 1 _ rfl
  have c2 := k0.cell 2 _ rfl
  have c3 := k0.cell 3 _ rfl
  have c4 := k0.cell 4 _ rfl
  have c5 := k0.cell 5 _ rfl
  have f3 := k0.froz 3 (by simp)
  have f4 := k0.froz 4 (by simp)
  have f5 := k0.froz 5 (by simp)
  have l0 := k0.lt
  have K0 := Lib.hid k0
  have K1 := Lib.hid k1
  clear k0 k1
  go_wp2_with fail
  with_reducible refine (HS.out _).mono ?_
  rintro e w2 ⟨rfl, hb⟩
  have k0 := (K0.out.set 4 (.int .i64 now') (by simp)).below hb
  have k1 := (K1.out.other w.heap.size 4 (.int .i64 now') (by omega)).below hb
  simp only [List.set_cons_zero, List.set_cons_succ] at k0
  have hb9 := (HB.out.setCell (p := ⟨w.heap.size, 4, none⟩) (Nat.le_refl _) (.int .i64 now')).trans (hb.mono (by have := HB.out.size; simpa [World.setCell] using this))
  clear hb HB K0 K1 c0 c1 c2 c3 c4 c5 f3 f4 f5 l0
  have HB := Lib.hid hb9
  clear hb9
  have c0 := k0.cell 0 _ rfl
  have c1 := k0.cell 1 _ rfl
  have c2 := k0.cell 2 _ rfl
  have c3 := k0.cell 3 _ rfl
  have c4 := k0.cell 4 _ rfl
  have c5 := k0.cell 5 _ rfl
  have f3 := k0.froz 3 (by simp)
  have f4 := k0.froz 4 (by simp)
  have f5 := k0.froz 5 (by simp)
  have l0 := k0.lt
  have K0 := Lib.hid k0
  have K1 := Lib.hid k1
  clear k0 k1
  have d0 := K1.out.cell 0 _ rfl
  have d1 := K1.out.cell 1 _ rfl
  have d2 := K1.out.cell 2 _ rfl
  have d3 := K1.out.cell 3 _ rfl
  have d4 := K1.out.cell 4 _ rfl
  have d5 := K1.out.cell 5 _ rfl
  have g0 := K1.out.froz 0 (by simp)
  have g1 := K1.out.froz 1 (by simp)
  have g2 := K1.out.froz 2 (by simp)
  have g3 := K1.out.froz 3 (by simp)
  have g4 := K1.out.froz 4 (by simp)
  have g5 := K1.out.froz 5 (by simp)
  have l1 := K1.out.lt
  go_wp2_with fail
  have bz := (K1.out.other w.heap.size 5 (.int .i64 s') (by omega)).put6 (.int .u8 1) (.int .i64 0) (.slice A m c) (.int .i64 N') (.int .i64 now') (.int .i64 s')
  have hb := below_put6 (HB.out.setCell (p := ⟨w.heap.size, 5, none⟩) (Nat.le_refl _) (.int .i64 s')) (b := w.heap.size + 1) (by omega) (.int .u8 1) (.int .i64 0) (.slice A m c) (.int .i64 N') (.int .i64 now') (.int .i64 s')
  have e0 := bz.cell 0 _ rfl
  have e1 := bz.cell 1 _ rfl
  have e2 := bz.cell 2 _ rfl
  have e3 := bz.cell 3 _ rfl
  have e4 := bz.cell 4 _ rfl
  have e5 := bz.cell 5 _ rfl
  clear bz K0 K1 HB c0 c1 c2 c3 c4 c5 f3 f4 f5 l0 d0 g0 d1 g1 d2 g2 d3 g3 d4 g4 d5 g5 l1
  generalize World.setCell _ _ _ = WZ at e0 e1 e2 e3 e4 e5 hb ⊢
  exact bodyPost_ret (v := .agg #[.int .u8 1, .int .i64 0, .slice A m c, .int .i64 N', .int .i64 now', .int .i64 s']) (by simp [results, Try.results17, go_sem, e0, e1, e2, e3, e4, e5]) rfl ⟨rfl, hb⟩

set_option maxHeartbeats 3200000 in
theorem fit_2 (w : World) (q N now s N' now' s' cs : Int) (A : Option Addr) (n c m : Nat)
    (hm : (if (n : Int) < 2 then (n : Int) else 2) = (m : Int)) (hm2 : (if (2 : Int) < (n : Int) then (2 : Int) else (n : Int)) = (m : Int)) (m0 : (0 : Int) ≤ (m : Int)) (mc : (m : Int) ≤ (c : Int)) (mc' : m ≤ c)
    (hs : (if cs < 1 then 1 else cs) = s') (hs2 : (if 1 < cs then cs else 1) = s')
    (HW : Hid (∀ w, Calls Try.prog 24 #[.int .i64 now] w fun e w' => e = .returned (.int .i64 now') ∧ Below w.heap.size w w'))
    (HS : Hid (∀ w, Calls Try.prog 24 #[.int .i64 s] w fun e w' => e = .returned (.int .i64 cs) ∧ Below w.heap.size w w')) :
    Calls Try.prog 17 #[.agg #[.int .u8 2, .int .i64 q, .slice A n c, .int .i64 N, .int .i64 now, .int .i64 s]] w (ValEnd w (.agg #[.int .u8 2, .int .i64 1, .slice A m c, .int .i64 N, .int .i64 now', .int .i64 s'])) := by
  go_enter Try.func17, Try.ntmps17
  go_wp2_with fail
  with_reducible refine (HW.out _).mono ?_
  rintro e w1 ⟨rfl, hb⟩
  have k0 := ((BlkL.new w [.int .u8 2, .int .i64 1, .slice A m c, .int .i64 N, .int .i64 now, .int .i64 s] 39).alloc _).below hb
  have k1 := (BlkL.new _ [.int .u8 0, .int .i64 0, .slice none 0 0, .int .i64 0, .int .i64 0, .int .i64 0] 39).below hb
  simp only [World.size_alloc] at k1
  have HB := Lib.hid ((below_a2 w _ _).trans (hb.mono (by simp; omega)))
  clear hb
  have c0 := k0.cell 0 _ rfl
  have c1 := k0.cell 1 _ rfl
  have c2 := k0.cell 2 _ rfl
  have c3 := k0.cell 3 _ rfl
  have c4 := k0.cell 4 _ rfl
  have c5 := k0.cell 5 _ rfl
  have f3 := k0.froz 3 (by simp)
  have f4 := k0.froz 4 (by simp)
  have f5 := k0.froz 5 (by simp)
  have l0 := k0.lt
  have K0 := Lib.hid k0
  have K1 := Lib.hid k1
  clear k0 k1
  go_wp2_with fail
  with_reducible refine (HS.out _).mono ?_
  rintro e w2 ⟨rfl, hb⟩
  have k0 := (K0.out.set 4 (.int .i64 now') (by simp)).below hb
  have k1 := (K1.out.other w.heap.size 4 (.int .i64 now') (by omega)).below hb
  simp only [List.set_cons_zero, List.set_cons_succ] at k0
  have hb9 := (HB.out.setCell (p := ⟨w.heap.size, 4, none⟩) (Nat.le_refl _) (.int .i64 now')).trans (hb.mono (by have := HB.out.size; simpa [World.setCell] using this))
  clear hb HB K0 K1 c0 c1 c2 c3 c4 c5 f3 f4 f5 l0
  have HB := Lib.hid hb9
  clear hb9
  have c0 := k0.cell 0 _ rfl
  have c1 := k0.cell 1 _ rfl
  have c2 := k0.cell 2 _ rfl
  have c3 := k0.cell 3 _ rfl
  have c4 := k0.cell 4 _ rfl
  have c5 := k0.cell 5 _ rfl
  have f3 := k0.froz 3 (by simp)
  have f4 := k0.froz 4 (by simp)
  have f5 := k0.froz 5 (by simp)
  have l0 := k0.lt
  have K0 := Lib.hid k0
  have K1 := Lib.hid k1
  clear k0 k1
  have d0 := K1.out.cell 0 _ rfl
  have d1 := K1.out.cell 1 _ rfl
  have d2 := K1.out.cell 2 _ rfl
  have d3 := K1.out.cell 3 _ rfl
  have d4 := K1.out.cell 4 _ rfl
  have d5 := K1.out.cell 5 _ rfl
  have g0 := K1.out.froz 0 (by simp)
  have g1 := K1.out.froz 1 (by simp)
  have g2 := K1.out.froz 2 (by simp)
  have g3 := K1.out.froz 3 (by simp)
  have g4 := K1.out.froz 4 (by simp)
  have g5 := K1.out.froz 5 (by simp)
  have l1 := K1.out.lt
  go_wp2_with fail
  have bz := (K1.out.other w.heap.size 5 (.int .i64 s') (by omega)).put6 (.int .u8 2) (.int .i64 1) (.slice A m c) (.int .i64 N) (.int .i64 now') (.int .i64 s')
  have hb := below_put6 (HB.out.setCell (p := ⟨w.heap.size, 5, none⟩) (Nat.le_refl _) (.int .i64 s')) (b := w.heap.size + 1) (by omega) (.int .u8 2) (.int .i64 1) (.slice A m c) (.int .i64 N) (.int .i64 now') (.int .i64 s')
  have e0 := bz.cell 0 _ rfl
  have e1 := bz.cell 1 _ rfl
  have e2 := bz.cell 2 _ rfl
  have e3 := bz.cell 3 _ rfl
  have e4 := bz.cell 4 _ rfl
  have e5 := bz.cell 5 _ rfl
  clear bz K0 K1 HB c0 c1 c2 c3 c4 c5 f3 f4 f5 l0 d0 g0 d1 g1 d2 g2 d3 g3 d4 g4 d5 g5 l1
  generalize World.setCell _ _ _ = WZ at e0 e1 e2 e3 e4 e5 hb ⊢
  exact bodyPost_ret (v := .agg #[.int .u8 2, .int .i64 1, .slice A m c, .int .i64 N, .int .i64 now', .int .i64 s']) (by simp [results, Try.results17, go_sem, e0, e1, e2, e3, e4, e5]) rfl ⟨rfl, hb⟩

set_option maxHeartbeats 3200000 in
theorem fit_3 (w : World) (q N now s N' now' s' cs : Int) (A : Option Addr) (n c m : Nat)
    (hm : (if (n : Int) < 2 then (n : Int) else 2) = (m : Int)) (hm2 : (if (2 : Int) < (n : Int) then (2 : Int) else (n : Int)) = (m : Int)) (m0 : (0 : Int) ≤ (m : Int)) (mc : (m : Int) ≤ (c : Int)) (mc' : m ≤ c)
    (hs : (if cs < 1 then 1 else cs) = s') (hs2 : (if 1 < cs then cs else 1) = s')
    (HW : Hid (∀ w, Calls Try.prog 24 #[.int .i64 now] w fun e w' => e = .returned (.int .i64 now') ∧ Below w.heap.size w w'))
    (HS : Hid (∀ w, Calls Try.prog 24 #[.int .i64 s] w fun e w' => e = .returned (.int .i64 cs) ∧ Below w.heap.size w w')) :
    Calls Try.prog 17 #[.agg #[.int .u8 3, .int .i64 q, .slice A n c, .int .i64 N, .int .i64 now, .int .i64 s]] w (ValEnd w (.agg #[.int .u8 3, .int .i64 1, .slice A m c, .int .i64 N, .int .i64 now', .int .i64 s'])) := by
  go_enter Try.func17, Try.ntmps17
  go_wp2_with fail
  with_reducible refine (HW.out _).mono ?_
  rintro e w1 ⟨rfl, hb⟩
  have k0 := ((BlkL.new w [.int .u8 3, .int .i64 1, .slice A m c, .int .i64 N, .int .i64 now, .int .i64 s] 39).alloc _).below hb
  have k1 := (BlkL.new _ [.int .u8 0, .int .i64 0, .slice none 0 0, .int .i64 0, .int .i64 0, .int .i64 0] 39).below hb
  simp only [World.size_alloc] at k1
  have HB := Lib.hid ((below_a2 w _ _).trans (hb.mono (by simp; omega)))
  clear hb
  have c0 := k0.cell 0 _ rfl
  have c1 := k0.cell 1 _ rfl
  have c2 := k0.cell 2 _ rfl
  have c3 := k0.cell 3 _ rfl
  have c4 := k0.cell 4 _ rfl
  have c5 := k0.cell 5 _ rfl
  have f3 := k0.froz 3 (by simp)
  have f4 := k0.froz 4 (by simp)
  have f5 := k0.froz 5 (by simp)
  have l0 := k0.lt
  have K0 := Lib.hid k0
  have K1 := Lib.hid k1
  clear k0 k1
  go_wp2_with fail
  with_reducible refine (HS.out _).mono ?_
  rintro e w2 ⟨rfl, hb⟩
  have k0 := (K0.out.set 4 (.int .i64 now') (by simp)).below hb
  have k1 := (K1.out.other w.heap.size 4 (.int .i64 now') (by omega)).below hb
  simp only [List.set_cons_zero, List.set_cons_succ] at k0
  have hb9 := (HB.out.setCell (p := ⟨w.heap.size, 4, none⟩) (Nat.le_refl _) (.int .i64 now')).trans (hb.mono (by have := HB.out.size; simpa [World.setCell] using this))
  clear hb HB K0 K1 c0 c1 c2 c3 c4 c5 f3 f4 f5 l0
  have HB := Lib.hid hb9
  clear hb9
  have c0 := k0.cell 0 _ rfl
  have c1 := k0.cell 1 _ rfl
  have c2 := k0.cell 2 _ rfl
  have c3 := k0.cell 3 _ rfl
  have c4 := k0.cell 4 _ rfl
  have c5 := k0.cell 5 _ rfl
  have f3 := k0.froz 3 (by simp)
  have f4 := k0.froz 4 (by simp)
  have f5 := k0.froz 5 (by simp)
  have l0 := k0.lt
  have K0 := Lib.hid k0
  have K1 := Lib.hid k1
  clear k0 k1
  have d0 := K1.out.cell 0 _ rfl
  have d1 := K1.out.cell 1 _ rfl
  have d2 := K1.out.cell 2 _ rfl
  have d3 := K1.out.cell 3 _ rfl
  have d4 := K1.out.cell 4 _ rfl
  have d5 := K1.out.cell 5 _ rfl
  have g0 := K1.out.froz 0 (by simp)
  have g1 := K1.out.froz 1 (by simp)
  have g2 := K1.out.froz 2 (by simp)
  have g3 := K1.out.froz 3 (by simp)
  have g4 := K1.out.froz 4 (by simp)
  have g5 := K1.out.froz 5 (by simp)
  have l1 := K1.out.lt
  go_wp2_with fail
  have bz := (K1.out.other w.heap.size 5 (.int .i64 s') (by omega)).put6 (.int .u8 3) (.int .i64 1) (.slice A m c) (.int .i64 N) (.int .i64 now') (.int .i64 s')
  have hb := below_put6 (HB.out.setCell (p := ⟨w.heap.size, 5, none⟩) (Nat.le_refl _) (.int .i64 s')) (b := w.heap.size + 1) (by omega) (.int .u8 3) (.int .i64 1) (.slice A m c) (.int .i64 N) (.int .i64 now') (.int .i64 s')
  have e0 := bz.cell 0 _ rfl
  have e1 := bz.cell 1 _ rfl
  have e2 := bz.cell 2 _ rfl
  have e3 := bz.cell 3 _ rfl
  have e4 := bz.cell 4 _ rfl
  have e5 := bz.cell 5 _ rfl
  clear bz K0 K1 HB c0 c1 c2 c3 c4 c5 f3 f4 f5 l0 d0 g0 d1 g1 d2 g2 d3 g3 d4 g4 d5 g5 l1
  generalize World.setCell _ _ _ = WZ at e0 e1 e2 e3 e4 e5 hb ⊢
  exact bodyPost_ret (v := .agg #[.int .u8 3, .int .i64 1, .slice A m c, .int .i64 N, .int .i64 now', .int .i64 s']) (by simp [results, Try.results17, go_sem, e0, e1, e2, e3, e4, e5]) rfl ⟨rfl, hb⟩

set_option maxHeartbeats 3200000 in
theorem fit_5 (w : World) (q N now s N' now' s' cs : Int) (A : Option Addr) (n c m : Nat)
    (hm : (if (n : Int) < 2 then (n : Int) else 2) = (m : Int)) (hm2 : (if (2 : Int) < (n : Int) then (2 : Int) else (n : Int)) = (m : Int)) (m0 : (0 : Int) ≤ (m : Int)) (mc : (m : Int) ≤ (c : Int)) (mc' : m ≤ c)
    (hs : (if cs < 1 then 1 else cs) = s') (hs2 : (if 1 < cs then cs else 1) = s')
    (HW : Hid (∀ w, Calls Try.prog 24 #[.int .i64 now] w fun e w' => e = .returned (.int .i64 now') ∧ Below w.heap.size w w'))
    (HS : Hid (∀ w, Calls Try.prog 24 #[.int .i64 s] w fun e w' => e = .returned (.int .i64 cs) ∧ Below w.heap.size w w')) :
    Calls Try.prog 17 #[.agg #[.int .u8 5, .int .i64 q, .slice A n c, .int .i64 N, .int .i64 now, .int .i64 s]] w (ValEnd w (.agg #[.int .u8 5, .int .i64 0, .slice A m c, .int .i64 N, .int .i64 now', .int .i64 s'])) := by
  go_enter Try.func17, Try.ntmps17
  go_wp2_with fail
  with_reducible refine (HW.out _).mono ?_
  rintro e w1 ⟨rfl, hb⟩
  have k0 := ((BlkL.new w [.int .u8 5, .int .i64 0, .slice A m c, .int .i64 N, .int .i64 now, .int .i64 s] 39).alloc _).below hb
  have k1 := (BlkL.new _ [.int .u8 0, .int .i64 0, .slice none 0 0, .int .i64 0, .int .i64 0, .int .i64 0] 39).below hb
  simp only [World.size_alloc] at k1
  have HB := Lib.hid ((below_a2 w _ _).trans (hb.mono (by simp; omega)))
  clear hb
  have c0 := k0.cell 0 _ rfl
  have c1 := k0.cell 1 _ rfl
  have c2 := k0.cell 2 _ rfl
  have c3 := k0.cell 3 _ rfl
  have c4 := k0.cell 4 _ rfl
  have c5 := k0.cell 5 _ rfl
  have f3 := k0.froz 3 (by simp)
  have f4 := k0.froz 4 (by simp)
  have f5 := k0.froz 5 (by simp)
  have l0 := k0.lt
  have K0 := Lib.hid k0
  have K1 := Lib.hid k1
  clear k0 k1
  go_wp2_with fail
  with_reducible refine (HS.out _).mono ?_
  rintro e w2 ⟨rfl, hb⟩
  have k0 := (K0.out.set 4 (.int .i64 now') (by simp)).below hb
  have k1 := (K1.out.other w.heap.size 4 (.int .i64 now') (by omega)).below hb
  simp only [List.set_cons_zero, List.set_cons_succ] at k0
  have hb9 := (HB.out.setCell (p := ⟨w.heap.size, 4, none⟩) (Nat.le_refl _) (.int .i64 now')).trans (hb.mono (by have := HB.out.size; simpa [World.setCell] using this))
  clear hb HB K0 K1 c0 c1 c2 c3 c4 c5 f3 f4 f5 l0
  have HB := Lib.hid hb9
  clear hb9
  have c0 := k0.cell 0 _ rfl
  have c1 := k0.cell 1 _ rfl
  have c2 := k0.cell 2 _ rfl
  have c3 := k0.cell 3 _ rfl
  have c4 := k0.cell 4 _ rfl
  have c5 := k0.cell 5 _ rfl
  have f3 := k0.froz 3 (by simp)
  have f4 := k0.froz 4 (by simp)
  have f5 := k0.froz 5 (by simp)
  have l0 := k0.lt
  have K0 := Lib.hid k0
  have K1 := Lib.hid k1
  clear k0 k1
  have d0 := K1.out.cell 0 _ rfl
  have d1 := K1.out.cell 1 _ rfl
  have d2 := K1.out.cell 2 _ rfl
  have d3 := K1.out.cell 3 _ rfl
  have d4 := K1.out.cell 4 _ rfl
  have d5 := K1.out.cell 5 _ rfl
  have g0 := K1.out.froz 0 (by simp)
  have g1 := K1.out.froz 1 (by simp)
  have g2 := K1.out.froz 2 (by simp)
  have g3 := K1.out.froz 3 (by simp)
  have g4 := K1.out.froz 4 (by simp)
  have g5 := K1.out.froz 5 (by simp)
  have l1 := K1.out.lt
  go_wp2_with fail
  have bz := (K1.out.other w.heap.size 5 (.int .i64 s') (by omega)).put6 (.int .u8 5) (.int .i64 0) (.slice A m c) (.int .i64 N) (.int .i64 now') (.int .i64 s')
  have hb := below_put6 (HB.out.setCell (p := ⟨w.heap.size, 5, none⟩) (Nat.le_refl _) (.int .i64 s')) (b := w.heap.size + 1) (by omega) (.int .u8 5) (.int .i64 0) (.slice A m c) (.int .i64 N) (.int .i64 now') (.int .i64 s')
  have e0 := bz.cell 0 _ rfl
  have e1 := bz.cell 1 _ rfl
  have e2 := bz.cell 2 _ rfl
  have e3 := bz.cell 3 _ rfl
  have e4 := bz.cell 4 _ rfl
  have e5 := bz.cell 5 _ rfl
  clear bz K0 K1 HB c0 c1 c2 c3 c4 c5 f3 f4 f5 l0 d0 g0 d1 g1 d2 g2 d3 g3 d4 g4 d5 g5 l1
  generalize World.setCell _ _ _ = WZ at e0 e1 e2 e3 e4 e5 hb ⊢
  exact bodyPost_ret (v := .agg #[.int .u8 5, .int .i64 0, .slice A m c, .int .i64 N, .int .i64 now', .int .i64 s']) (by simp [results, Try.results17, go_sem, e0, e1, e2, e3, e4, e5]) rfl ⟨rfl, hb⟩

set_option maxHeartbeats 3200000 in
theorem fit_6 (w : World) (q N now s N' now' s' cs : Int) (A : Option Addr) (n c m : Nat)
    (hm : (if (n : Int) < 2 then (n : Int) else 2) = (m : Int)) (hm2 : (if (2 : Int) < (n : Int) then (2 : Int) else (n : Int)) = (m : Int)) (m0 : (0 : Int) ≤ (m : Int)) (mc : (m : Int) ≤ (c : Int)) (mc' : m ≤ c)
    (hs : (if cs < 1 then 1 else cs) = s') (hs2 : (if 1 < cs then cs else 1) = s')
    (HW : Hid (∀ w, Calls Try.prog 24 #[.int .i64 now] w fun e w' => e = .returned (.int .i64 now') ∧ Below w.heap.size w w'))
    (HS : Hid (∀ w, Calls Try.prog 24 #[.int .i64 s] w fun e w' => e = .returned (.int .i64 cs) ∧ Below w.heap.size w w')) :
    Calls Try.prog 17 #[.agg #[.int .u8 6, .int .i64 q, .slice A n c, .int .i64 N, .int .i64 now, .int .i64 s]] w (ValEnd w (.agg #[.int .u8 6, .int .i64 0, .slice A m c, .int .i64 N, .int .i64 now', .int .i64 s'])) := by
  go_enter Try.func17, Try.ntmps17
  go_wp2_with fail
  with_reducible refine (HW.out _).mono ?_
  rintro e w1 ⟨rfl, hb⟩
  have k0 := ((BlkL.new w [.int .u8 6, .int .i64 0, .slice A m c, .int .i64 N, .int .i64 now, .int .i64 s] 39).alloc _).below hb
  have k1 := (BlkL.new _ [.int .u8 0, .int .i64 0, .slice none 0 0, .int .i64 0, .int .i64 0, .int .i64 0] 39).below hb
  simp only [World.size_alloc] at k1
  have HB := Lib.hid ((below_a2 w _ _).trans (hb.mono (by simp; omega)))
  clear hb
  have c0 := k0.cell 0 _ rfl
  have c1 := k0.cell 1 _ rfl
  have c2 := k0.cell 2 _ rfl
  have c3 := k0.cell 3 _ rfl
  have c4 := k0.cell 4 _ rfl
  have c5 := k0.cell 5 _ rfl
  have f3 := k0.froz 3 (by simp)
  have f4 := k0.froz 4 (by simp)
  have f5 := k0.froz 5 (by simp)
  have l0 := k0.lt
  have K0 := Lib.hid k0
  have K1 := Lib.hid k1
  clear k0 k1
  go_wp2_with fail
  with_reducible refine (HS.out _).mono ?_
  rintro e w2 ⟨rfl, hb⟩
  have k0 := (K0.out.set 4 (.int .i64 now') (by simp)).below hb
  have k1 := (K1.out.other w.heap.size 4 (.int .i64 now') (by omega)).below hb
  simp only [List.set_cons_zero, List.set_cons_succ] at k0
  have hb9 := (HB.out.setCell (p := ⟨w.heap.size, 4, none⟩) (Nat.le_refl _) (.int .i64 now')).trans (hb.mono (by have := HB.out.size; simpa [World.setCell] using this))
  clear hb HB K0 K1 c0 c1 c2 c3 c4 c5 f3 f4 f5 l0
  have HB := Lib.hid hb9
  clear hb9
  have c0 := k0.cell 0 _ rfl
  have c1 := k0.cell 1 _ rfl
  have c2 := k0.cell 2 _ rfl
  have c3 := k0.cell 3 _ rfl
  have c4 := k0.cell 4 _ rfl
  have c5 := k0.cell 5 _ rfl
  have f3 := k0.froz 3 (by simp)
  have f4 := k0.froz 4 (by simp)
  have f5 := k0.froz 5 (by simp)
  have l0 := k0.lt
  have K0 := Lib.hid k0
  have K1 := Lib.hid k1
  clear k0 k1
  have d0 := K1.out.cell 0 _ rfl
  have d1 := K1.out.cell 1 _ rfl
  have d2 := K1.out.cell 2 _ rfl
  have d3 := K1.out.cell 3 _ rfl
  have d4 := K1.out.cell 4 _ rfl
  have d5 := K1.out.cell 5 _ rfl
  have g0 := K1.out.froz 0 (by simp)
  have g1 := K1.out.froz 1 (by simp)
  have g2 := K1.out.froz 2 (by simp)
  have g3 := K1.out.froz 3 (by simp)
  have g4 := K1.out.froz 4 (by simp)
  have g5 := K1.out.froz 5 (by simp)
  have l1 := K1.out.lt
  go_wp2_with fail
  have bz := (K1.out.other w.heap.size 5 (.int .i64 s') (by omega)).put6 (.int .u8 6) (.int .i64 0) (.slice A m c) (.int .i64 N) (.int .i64 now') (.int .i64 s')
  have hb := below_put6 (HB.out.setCell (p := ⟨w.heap.size, 5, none⟩) (Nat.le_refl _) (.int .i64 s')) (b := w.heap.size + 1) (by omega) (.int .u8 6) (.int .i64 0) (.slice A m c) (.int .i64 N) (.int .i64 now') (.int .i64 s')
  have e0 := bz.cell 0 _ rfl
  have e1 := bz.cell 1 _ rfl
  have e2 := bz.cell 2 _ rfl
  have e3 := bz.cell 3 _ rfl
  have e4 := bz.cell 4 _ rfl
  have e5 := bz.cell 5 _ rfl
  clear bz K0 K1 HB c0 c1 c2 c3 c4 c5 f3 f4 f5 l0 d0 g0 d1 g1 d2 g2 d3 g3 d4 g4 d5 g5 l1
  generalize World.setCell _ _ _ = WZ at e0 e1 e2 e3 e4 e5 hb ⊢
  exact bodyPost_ret (v := .agg #[.int .u8 6, .int .i64 0, .slice A m c, .int .i64 N, .int .i64 now', .int .i64 s']) (by simp [results, Try.results17, go_sem, e0, e1, e2, e3, e4, e5]) rfl ⟨rfl, hb⟩

set_option maxHeartbeats 3200000 in
theorem fit_4e (w : World) (q N now s N' now' s' cs : Int) (A : Option Addr) (n c m : Nat)
    (hev : (N.tmod 2 == 0) = true)
    (hm : (if (n : Int) < 2 then (n : Int) else 2) = (m : Int)) (hm2 : (if (2 : Int) < (n : Int) then (2 : Int) else (n : Int)) = (m : Int)) (m0 : (0 : Int) ≤ (m : Int)) (mc : (m : Int) ≤ (c : Int)) (mc' : m ≤ c)
    (hs : (if cs < 1 then 1 else cs) = s') (hs2 : (if 1 < cs then cs else 1) = s')
    (HW : Hid (∀ w, Calls Try.prog 24 #[.int .i64 now] w fun e w' => e = .returned (.int .i64 now') ∧ Below w.heap.size w w'))
    (HS : Hid (∀ w, Calls Try.prog 24 #[.int .i64 s] w fun e w' => e = .returned (.int .i64 cs) ∧ Below w.heap.size w w')) :
    Calls Try.prog 17 #[.agg #[.int .u8 4, .int .i64 q, .slice A n c, .int .i64 N, .int .i64 now, .int .i64 s]] w (ValEnd w (.agg #[.int .u8 4, .int .i64 1, .slice A m c, .int .i64 N, .int .i64 now', .int .i64 s'])) := by
  go_enter Try.func17, Try.ntmps17
  go_wp2_with fail
  with_reducible refine (HW.out _).mono ?_
  rintro e w1 ⟨rfl, hb⟩
  have k0 := ((BlkL.new w [.int .u8 4, .int .i64 1, .slice A m c, .int .i64 N, .int .i64 now, .int .i64 s] 39).alloc _).below hb
  have k1 := (BlkL.new _ [.int .u8 0, .int .i64 0, .slice none 0 0, .int .i64 0, .int .i64 0, .int .i64 0] 39).below hb
  simp only [World.size_alloc] at k1
  have HB := Lib.hid ((below_a2 w _ _).trans (hb.mono (by simp; omega)))
  clear hb
  have c0 := k0.cell 0 _ rfl
  have c1 := k0.cell 1 _ rfl
  have c2 := k0.cell 2 _ rfl
  have c3 := k0.cell 3 _ rfl
  have c4 := k0.cell 4 _ rfl
  have c5 := k0.cell 5 _ rfl
  have f3 := k0.froz 3 (by simp)
  have f4 := k0.froz 4 (by simp)
  have f5 := k0.froz 5 (by simp)
  have l0 := k0.lt
  have K0 := Lib.hid k0
  have K1 := Lib.hid k1
  clear k0 k1
  go_wp2_with fail
  with_reducible refine (HS.out _).mono ?_
  rintro e w2 ⟨rfl, hb⟩
  have k0 := (K0.out.set 4 (.int .i64 now') (by simp)).below hb
  have k1 := (K1.out.other w.heap.size 4 (.int .i64 now') (by omega)).below hb
  simp only [List.set_cons_zero, List.set_cons_succ] at k0
  have hb9 := (HB.out.setCell (p := ⟨w.heap.size, 4, none⟩) (Nat.le_refl _) (.int .i64 now')).trans (hb.mono (by have := HB.out.size; simpa [World.setCell] using this))
  clear hb HB K0 K1 c0 c1 c2 c3 c4 c5 f3 f4 f5 l0
  have HB := Lib.hid hb9
  clear hb9
  have c0 := k0.cell 0 _ rfl
  have c1 := k0.cell 1 _ rfl
  have c2 := k0.cell 2 _ rfl
  have c3 := k0.cell 3 _ rfl
  have c4 := k0.cell 4 _ rfl
  have c5 := k0.cell 5 _ rfl
  have f3 := k0.froz 3 (by simp)
  have f4 := k0.froz 4 (by simp)
  have f5 := k0.froz 5 (by simp)
  have l0 := k0.lt
  have K0 := Lib.hid k0
  have K1 := Lib.hid k1
  clear k0 k1
  have d0 := K1.out.cell 0 _ rfl
  have d1 := K1.out.cell 1 _ rfl
  have d2 := K1.out.cell 2 _ rfl
  have d3 := K1.out.cell 3 _ rfl
  have d4 := K1.out.cell 4 _ rfl
  have d5 := K1.out.cell 5 _ rfl
  have g0 := K1.out.froz 0 (by simp)
  have g1 := K1.out.froz 1 (by simp)
  have g2 := K1.out.froz 2 (by simp)
  have g3 := K1.out.froz 3 (by simp)
  have g4 := K1.out.froz 4 (by simp)
  have g5 := K1.out.froz 5 (by simp)
  have l1 := K1.out.lt
  go_wp2_with fail
  have bz := (K1.out.other w.heap.size 5 (.int .i64 s') (by omega)).put6 (.int .u8 4) (.int .i64 1) (.slice A m c) (.int .i64 N) (.int .i64 now') (.int .i64 s')
  have hb := below_put6 (HB.out.setCell (p := ⟨w.heap.size, 5, none⟩) (Nat.le_refl _) (.int .i64 s')) (b := w.heap.size + 1) (by omega) (.int .u8 4) (.int .i64 1) (.slice A m c) (.int .i64 N) (.int .i64 now') (.int .i64 s')
  have e0 := bz.cell 0 _ rfl
  have e1 := bz.cell 1 _ rfl
  have e2 := bz.cell 2 _ rfl
  have e3 := bz.cell 3 _ rfl
  have e4 := bz.cell 4 _ rfl
  have e5 := bz.cell 5 _ rfl
  clear bz K0 K1 HB c0 c1 c2 c3 c4 c5 f3 f4 f5 l0 d0 g0 d1 g1 d2 g2 d3 g3 d4 g4 d5 g5 l1
  generalize World.setCell _ _ _ = WZ at e0 e1 e2 e3 e4 e5 hb ⊢
  exact bodyPost_ret (v := .agg #[.int .u8 4, .int .i64 1, .slice A m c, .int .i64 N, .int .i64 now', .int .i64 s']) (by simp [results, Try.results17, go_sem, e0, e1, e2, e3, e4, e5]) rfl ⟨rfl, hb⟩

set_option maxHeartbeats 3200000 in
theorem fit_4o (w : World) (q N now s N' now' s' cs : Int) (A : Option Addr) (n c m : Nat)
    (hev : (N.tmod 2 == 0) = false)
    (hm : (if (n : Int) < 2 then (n : Int) else 2) = (m : Int)) (hm2 : (if (2 : Int) < (n : Int) then (2 : Int) else (n : Int)) = (m : Int)) (m0 : (0 : Int) ≤ (m : Int)) (mc : (m : Int) ≤ (c : Int)) (mc' : m ≤ c)
    (hs : (if cs < 1 then 1 else cs) = s') (hs2 : (if 1 < cs then cs else 1) = s')
    (HW : Hid (∀ w, Calls Try.prog 24 #[.int .i64 now] w fun e w' => e = .returned (.int .i64 now') ∧ Below w.heap.size w w'))
    (HS : Hid (∀ w, Calls Try.prog 24 #[.int .i64 s] w fun e w' => e = .returned (.int .i64 cs) ∧ Below w.heap.size w w')) :
    Calls Try.prog 17 #[.agg #[.int .u8 4, .int .i64 q, .slice A n c, .int .i64 N, .int .i64 now, .int .i64 s]] w (ValEnd w (.agg #[.int .u8 4, .int .i64 0, .slice A m c, .int .i64 N, .int .i64 now', .int .i64 s'])) := by
  go_enter Try.func17, Try.ntmps17
  go_wp2_with fail
  with_reducible refine (HW.out _).mono ?_
  rintro e w1 ⟨rfl, hb⟩
  have k0 := ((BlkL.new w [.int .u8 4, .int .i64 0, .slice A m c, .int .i64 N, .int .i64 now, .int .i64 s] 39).alloc _).below hb
  have k1 := (BlkL.new _ [.int .u8 0, .int .i64 0, .slice none 0 0, .int .i64 0, .int .i64 0, .int .i64 0] 39).below hb
  simp only [World.size_alloc] at k1
  have HB := Lib.hid ((below_a2 w _ _).trans (hb.mono (by simp; omega)))
  clear hb
  have c0 := k0.cell 0 _ rfl
  have c1 := k0.cell 1 _ rfl
  have c2 := k0.cell 2 _ rfl
  have c3 := k0.cell 3 _ rfl
  have c4 := k0.cell 4 _ rfl
  have c5 := k0.cell 5 _ rfl
  have f3 := k0.froz 3 (by simp)
  have f4 := k0.froz 4 (by simp)
  have f5 := k0.froz 5 (by simp)
  have l0 := k0.lt
  have K0 := Lib.hid k0
  have K1 := Lib.hid k1
  clear k0 k1
  go_wp2_with fail
  with_reducible refine (HS.out _).mono ?_
  rintro e w2 ⟨rfl, hb⟩
  have k0 := (K0.out.set 4 (.int .i64 now') (by simp)).below hb
  have k1 := (K1.out.other w.heap.size 4 (.int .i64 now') (by omega)).below hb
  simp only [List.set_cons_zero, List.set_cons_succ] at k0
  have hb9 := (HB.out.setCell (p := ⟨w.heap.size, 4, none⟩) (Nat.le_refl _) (.int .i64 now')).trans (hb.mono (by have := HB.out.size; simpa [World.setCell] using this))
  clear hb HB K0 K1 c0 c1 c2 c3 c4 c5 f3 f4 f5 l0
  have HB := Lib.hid hb9
  clear hb9
  have c0 := k0.cell 0 _ rfl
  have c1 := k0.cell 1 _ rfl
  have c2 := k0.cell 2 _ rfl
  have c3 := k0.cell 3 _ rfl
  have c4 := k0.cell 4 _ rfl
  have c5 := k0.cell 5 _ rfl
  have f3 := k0.froz 3 (by simp)
  have f4 := k0.froz 4 (by simp)
  have f5 := k0.froz 5 (by simp)
  have l0 := k0.lt
  have K0 := Lib.hid k0
  have K1 := Lib.hid k1
  clear k0 k1
  have d0 := K1.out.cell 0 _ rfl
  have d1 := K1.out.cell 1 _ rfl
  have d2 := K1.out.cell 2 _ rfl
  have d3 := K1.out.cell 3 _ rfl
  have d4 := K1.out.cell 4 _ rfl
  have d5 := K1.out.cell 5 _ rfl
  have g0 := K1.out.froz 0 (by simp)
  have g1 := K1.out.froz 1 (by simp)
  have g2 := K1.out.froz 2 (by simp)
  have g3 := K1.out.froz 3 (by simp)
  have g4 := K1.out.froz 4 (by simp)
  have g5 := K1.out.froz 5 (by simp)
  have l1 := K1.out.lt
  go_wp2_with fail
  have bz := (K1.out.other w.heap.size 5 (.int .i64 s') (by omega)).put6 (.int .u8 4) (.int .i64 0) (.slice A m c) (.int .i64 N) (.int .i64 now') (.int .i64 s')
  have hb := below_put6 (HB.out.setCell (p := ⟨w.heap.size, 5, none⟩) (Nat.le_refl _) (.int .i64 s')) (b := w.heap.size + 1) (by omega) (.int .u8 4) (.int .i64 0) (.slice A m c) (.int .i64 N) (.int .i64 now') (.int .i64 s')
  have e0 := bz.cell 0 _ rfl
  have e1 := bz.cell 1 _ rfl
  have e2 := bz.cell 2 _ rfl
  have e3 := bz.cell 3 _ rfl
  have e4 := bz.cell 4 _ rfl
  have e5 := bz.cell 5 _ rfl
  clear bz K0 K1 HB c0 c1 c2 c3 c4 c5 f3 f4 f5 l0 d0 g0 d1 g1 d2 g2 d3 g3 d4 g4 d5 g5 l1
  generalize World.setCell _ _ _ = WZ at e0 e1 e2 e3 e4 e5 hb ⊢
  exact bodyPost_ret (v := .agg #[.int .u8 4, .int .i64 0, .slice A m c, .int .i64 N, .int .i64 now', .int .i64 s']) (by simp [results, Try.results17, go_sem, e0, e1, e2, e3, e4, e5]) rfl ⟨rfl, hb⟩

set_option maxHeartbeats 3200000 in
theorem fit_0 (w : World) (q N now s N' now' s' cs : Int) (A : Option Addr) (n c m : Nat)
    (hm : (if (n : Int) < 2 then (n : Int) else 2) = (m : Int)) (hm2 : (if (2 : Int) < (n : Int) then (2 : Int) else (n : Int)) = (m : Int)) (m0 : (0 : Int) ≤ (m : Int)) (mc : (m : Int) ≤ (c : Int)) (mc' : m ≤ c)
    (hs : (if cs < 1 then 1 else cs) = s') (hs2 : (if 1 < cs then cs else 1) = s')
    (HN : Hid (∀ w, Calls Try.prog 24 #[.int .i64 N] w fun e w' => e = .returned (.int .i64 N') ∧ Below w.heap.size w w'))
    (HW : Hid (∀ w, Calls Try.prog 24 #[.int .i64 now] w fun e w' => e = .returned (.int .i64 now') ∧ Below w.heap.size w w'))
    (HS : Hid (∀ w, Calls Try.prog 24 #[.int .i64 s] w fun e w' => e = .returned (.int .i64 cs) ∧ Below w.heap.size w w')) :
    Calls Try.prog 17 #[.agg #[.int .u8 0, .int .i64 q, .slice A n c, .int .i64 N, .int .i64 now, .int .i64 s]] w (ValEnd w (.agg #[.int .u8 1, .int .i64 0, .slice A m c, .int .i64 N', .int .i64 now', .int .i64 s'])) := by
  go_enter Try.func17, Try.ntmps17
  go_wp2_with fail
  with_reducible refine (HN.out _).mono ?_
  rintro e w0 ⟨rfl, hb⟩
  have k0 := ((BlkL.new w [.int .u8 1, .int .i64 0, .slice A m c, .int .i64 N, .int .i64 now, .int .i64 s] 39).alloc _).below hb
  have k1 := (BlkL.new _ [.int .u8 0, .int .i64 0, .slice none 0 0, .int .i64 0, .int .i64 0, .int .i64 0] 39).below hb
  simp only [World.size_alloc] at k1
  have HB := Lib.hid ((below_a2 w _ _).trans (hb.mono (by simp; omega)))
  clear hb
  have c0 := k0.cell 0 _ rfl
  have c1 := k0.cell 1 _ rfl
  have c2 := k0.cell 2 _ rfl
  have c3 := k0.cell 3 _ rfl
  have c4 := k0.cell 4 _ rfl
  have c5 := k0.cell 5 _ rfl
  have f3 := k0.froz 3 (by simp)
  have f4 := k0.froz 4 (by simp)
  have f5 := k0.froz 5 (by simp)
  have l0 := k0.lt
  have K0 := Lib.hid k0
  have K1 := Lib.hid k1
  clear k0 k1
  go_wp2_with fail
  with_reducible refine (HW.out _).mono ?_
  rintro e w1 ⟨rfl, hb⟩
  have k0 := (K0.out.set 3 (.int .i64 N') (by simp)).below hb
  have k1 := (K1.out.other w.heap.size 3 (.int .i64 N') (by omega)).below hb
  simp only [List.set_cons_zero, List.set_cons_succ] at k0
  have hb9 := (HB.out.setCell (p := ⟨w.heap.size, 3, none⟩) (Nat.le_refl _) (.int .i64 N')).trans (hb.mono (by have := HB.out.size; simpa [World.setCell] using this))
  clear hb HB K0 K1 c0 c1 c2 c3 c4 c5 f3 f4 f5 l0
  have HB := Lib.hid hb9
  clear hb9
  have c0 := k0.cell 0 _ rfl
  have c1 := k0.cell 1 _ rfl
  have c2 := k0.cell 2 _ rfl
  have c3 := k0.cell 3 _ rfl
  have c4 := k0.cell 4 _ rfl
  have c5 := k0.cell 5 _ rfl
  have f3 := k0.froz 3 (by simp)
  have f4 := k0.froz 4 (by simp)
  have f5 := k0.froz 5 (by simp)
  have l0 := k0.lt
  have K0 := Lib.hid k0
  have K1 := Lib.hid k1
  clear k0 k1
  go_wp2_with fail
  with_reducible refine (HS.out _).mono ?_
  rintro e w2 ⟨rfl, hb⟩
  have k0 := (K0.out.set 4 (.int .i64 now') (by simp)).below hb
  have k1 := (K1.out.other w.heap.size 4 (.int .i64 now') (by omega)).below hb
  simp only [List.set_cons_zero, List.set_cons_succ] at k0
  have hb9 := (HB.out.setCell (p := ⟨w.heap.size, 4, none⟩) (Nat.le_refl _) (.int .i64 now')).trans (hb.mono (by have := HB.out.size; simpa [World.setCell] using this))
  clear hb HB K0 K1 c0 c1 c2 c3 c4 c5 f3 f4 f5 l0
  have HB := Lib.hid hb9
  clear hb9
  have c0 := k0.cell 0 _ rfl
  have c1 := k0.cell 1 _ rfl
  have c2 := k0.cell 2 _ rfl
  have c3 := k0.cell 3 _ rfl
  have c4 := k0.cell 4 _ rfl
  have c5 := k0.cell 5 _ rfl
  have f3 := k0.froz 3 (by simp)
  have f4 := k0.froz 4 (by simp)
  have f5 := k0.froz 5 (by simp)
  have l0 := k0.lt
  have K0 := Lib.hid k0
  have K1 := Lib.hid k1
  clear k0 k1
  have d0 := K1.out.cell 0 _ rfl
  have d1 := K1.out.cell 1 _ rfl
  have d2 := K1.out.cell 2 _ rfl
  have d3 := K1.out.cell 3 _ rfl
  have d4 := K1.out.cell 4 _ rfl
  have d5 := K1.out.cell 5 _ rfl
  have g0 := K1.out.froz 0 (by simp)
  have g1 := K1.out.froz 1 (by simp)
  have g2 := K1.out.froz 2 (by simp)
  have g3 := K1.out.froz 3 (by simp)
  have g4 := K1.out.froz 4 (by simp)
  have g5 := K1.out.froz 5 (by simp)
  have l1 := K1.out.lt
  go_wp2_with fail
  have bz := (K1.out.other w.heap.size 5 (.int .i64 s') (by omega)).put6 (.int .u8 1) (.int .i64 0) (.slice A m c) (.int .i64 N') (.int .i64 now') (.int .i64 s')
  have hb := below_put6 (HB.out.setCell (p := ⟨w.heap.size, 5, none⟩) (Nat.le_refl _) (.int .i64 s')) (b := w.heap.size + 1) (by omega) (.int .u8 1) (.int .i64 0) (.slice A m c) (.int .i64 N') (.int .i64 now') (.int .i64 s')
  have e0 := bz.cell 0 _ rfl
  have e1 := bz.cell 1 _ rfl
  have e2 := bz.cell 2 _ rfl
  have e3 := bz.cell 3 _ rfl
  have e4 := bz.cell 4 _ rfl
  have e5 := bz.cell 5 _ rfl
  clear bz K0 K1 HB c0 c1 c2 c3 c4 c5 f3 f4 f5 l0 d0 g0 d1 g1 d2 g2 d3 g3 d4 g4 d5 g5 l1
  generalize World.setCell _ _ _ = WZ at e0 e1 e2 e3 e4 e5 hb ⊢
  exact bodyPost_ret (v := .agg #[.int .u8 1, .int .i64 0, .slice A m c, .int .i64 N', .int .i64 now', .int .i64 s']) (by simp [results, Try.results17, go_sem, e0, e1, e2, e3, e4, e5]) rfl ⟨rfl, hb⟩

set_option maxHeartbeats 3200000 in
theorem fit_x1 (w : World) (q N now s N' now' s' cs : Int) (A : Option Addr) (n c m : Nat)
    (op : Nat)
    (d1 : decide ((op : Int) < 1) = false)
    (d2 : decide (6 < (op : Int)) = true)
    (hr1 : (op : Int).tmod 6 = 0)
    (hr2 : (op : Int) % 6 = 0)
    (hm : (if (n : Int) < 2 then (n : Int) else 2) = (m : Int)) (hm2 : (if (2 : Int) < (n : Int) then (2 : Int) else (n : Int)) = (m : Int)) (m0 : (0 : Int) ≤ (m : Int)) (mc : (m : Int) ≤ (c : Int)) (mc' : m ≤ c)
    (hs : (if cs < 1 then 1 else cs) = s') (hs2 : (if 1 < cs then cs else 1) = s')
    (HN : Hid (∀ w, Calls Try.prog 24 #[.int .i64 N] w fun e w' => e = .returned (.int .i64 N') ∧ Below w.heap.size w w'))
    (HW : Hid (∀ w, Calls Try.prog 24 #[.int .i64 now] w fun e w' => e = .returned (.int .i64 now') ∧ Below w.heap.size w w'))
    (HS : Hid (∀ w, Calls Try.prog 24 #[.int .i64 s] w fun e w' => e = .returned (.int .i64 cs) ∧ Below w.heap.size w w')) :
    Calls Try.prog 17 #[.agg #[.int .u8 (op : Nat), .int .i64 q, .slice A n c, .int .i64 N, .int .i64 now, .int .i64 s]] w (ValEnd w (.agg #[.int .u8 1, .int .i64 0, .slice A m c, .int .i64 N', .int .i64 now', .int .i64 s'])) := by
  go_enter Try.func17, Try.ntmps17
  go_wp2_with fail
  with_reducible refine (HN.out _).mono ?_
  rintro e w0 ⟨rfl, hb⟩
  have k0 := ((BlkL.new w [.int .u8 1, .int .i64 0, .slice A m c, .int .i64 N, .int .i64 now, .int .i64 s] 39).alloc _).below hb
  have k1 := (BlkL.new _ [.int .u8 0, .int .i64 0, .slice none 0 0, .int .i64 0, .int .i64 0, .int .i64 0] 39).below hb
  simp only [World.size_alloc] at k1
  have HB := Lib.hid ((below_a2 w _ _).trans (hb.mono (by simp; omega)))
  clear hb
  have c0 := k0.cell 0 _ rfl
  have c1 := k0.cell 1 _ rfl
  have c2 := k0.cell 2 _ rfl
  have c3 := k0.cell 3 _ rfl
  have c4 := k0.cell 4 _ rfl
  have c5 := k0.cell 5 _ rfl
  have f3 := k0.froz 3 (by simp)
  have f4 := k0.froz 4 (by simp)
  have f5 := k0.froz 5 (by simp)
  have l0 := k0.lt
  have K0 := Lib.hid k0
  have K1 := Lib.hid k1
  clear k0 k1
  go_wp2_with fail
  with_reducible refine (HW.out _).mono ?_
  rintro e w1 ⟨rfl, hb⟩
  have k0 := (K0.out.set 3 (.int .i64 N') (by simp)).below hb
  have k1 := (K1.out.other w.heap.size 3 (.int .i64 N') (by omega)).below hb
  simp only [List.set_cons_zero, List.set_cons_succ] at k0
  have hb9 := (HB.out.setCell (p := ⟨w.heap.size, 3, none⟩) (Nat.le_refl _) (.int .i64 N')).trans (hb.mono (by have := HB.out.size; simpa [World.setCell] using this))
  clear hb HB K0 K1 c0 c1 c2 c3 c4 c5 f3 f4 f5 l0
  have HB := Lib.hid hb9
  clear hb9
  have c0 := k0.cell 0 _ rfl
  have c1 := k0.cell 1 _ rfl
  have c2 := k0.cell 2 _ rfl
  have c3 := k0.cell 3 _ rfl
  have c4 := k0.cell 4 _ rfl
  have c5 := k0.cell 5 _ rfl
  have f3 := k0.froz 3 (by simp)
  have f4 := k0.froz 4 (by simp)
  have f5 := k0.froz 5 (by simp)
  have l0 := k0.lt
  have K0 := Lib.hid k0
  have K1 := Lib.hid k1
  clear k0 k1
  go_wp2_with fail
  with_reducible refine (HS.out _).mono ?_
  rintro e w2 ⟨rfl, hb⟩
  have k0 := (K0.out.set 4 (.int .i64 now') (by simp)).below hb
  have k1 := (K1.out.other w.heap.size 4 (.int .i64 now') (by omega)).below hb
  simp only [List.set_cons_zero, List.set_cons_succ] at k0
  have hb9 := (HB.out.setCell (p := ⟨w.heap.size, 4, none⟩) (Nat.le_refl _) (.int .i64 now')).trans (hb.mono (by have := HB.out.size; simpa [World.setCell] using this))
  clear hb HB K0 K1 c0 c1 c2 c3 c4 c5 f3 f4 f5 l0
  have HB := Lib.hid hb9
  clear hb9
  have c0 := k0.cell 0 _ rfl
  have c1 := k0.cell 1 _ rfl
  have c2 := k0.cell 2 _ rfl
  have c3 := k0.cell 3 _ rfl
  have c4 := k0.cell 4 _ rfl
  have c5 := k0.cell 5 _ rfl
  have f3 := k0.froz 3 (by simp)
  have f4 := k0.froz 4 (by simp)
  have f5 := k0.froz 5 (by simp)
  have l0 := k0.lt
  have K0 := Lib.hid k0
  have K1 := Lib.hid k1
  clear k0 k1
  have d0 := K1.out.cell 0 _ rfl
  have d1 := K1.out.cell 1 _ rfl
  have d2 := K1.out.cell 2 _ rfl
  have d3 := K1.out.cell 3 _ rfl
  have d4 := K1.out.cell 4 _ rfl
  have d5 := K1.out.cell 5 _ rfl
  have g0 := K1.out.froz 0 (by simp)
  have g1 := K1.out.froz 1 (by simp)
  have g2 := K1.out.froz 2 (by simp)
  have g3 := K1.out.froz 3 (by simp)
  have g4 := K1.out.froz 4 (by simp)
  have g5 := K1.out.froz 5 (by simp)
  have l1 := K1.out.lt
  go_wp2_with fail
  have bz := (K1.out.other w.heap.size 5 (.int .i64 s') (by omega)).put6 (.int .u8 1) (.int .i64 0) (.slice A m c) (.int .i64 N') (.int .i64 now') (.int .i64 s')
  have hb := below_put6 (HB.out.setCell (p := ⟨w.heap.size, 5, none⟩) (Nat.le_refl _) (.int .i64 s')) (b := w.heap.size + 1) (by omega) (.int .u8 1) (.int .i64 0) (.slice A m c) (.int .i64 N') (.int .i64 now') (.int .i64 s')
  have e0 := bz.cell 0 _ rfl
  have e1 := bz.cell 1 _ rfl
  have e2 := bz.cell 2 _ rfl
  have e3 := bz.cell 3 _ rfl
  have e4 := bz.cell 4 _ rfl
  have e5 := bz.cell 5 _ rfl
  clear bz K0 K1 HB c0 c1 c2 c3 c4 c5 f3 f4 f5 l0 d0 g0 d1 g1 d2 g2 d3 g3 d4 g4 d5 g5 l1
  generalize World.setCell _ _ _ = WZ at e0 e1 e2 e3 e4 e5 hb ⊢
  exact bodyPost_ret (v := .agg #[.int .u8 1, .int .i64 0, .slice A m c, .int .i64 N', .int .i64 now', .int .i64 s']) (by simp [results, Try.results17, go_sem, e0, e1, e2, e3, e4, e5]) rfl ⟨rfl, hb⟩

set_option maxHeartbeats 3200000 in
theorem fit_x2 (w : World) (q N now s N' now' s' cs : Int) (A : Option Addr) (n c m : Nat)
    (op : Nat)
    (d1 : decide ((op : Int) < 1) = false)
    (d2 : decide (6 < (op : Int)) = true)
    (hr1 : (op : Int).tmod 6 = 1)
    (hr2 : (op : Int) % 6 = 1)
    (hm : (if (n : Int) < 2 then (n : Int) else 2) = (m : Int)) (hm2 : (if (2 : Int) < (n : Int) then (2 : Int) else (n : Int)) = (m : Int)) (m0 : (0 : Int) ≤ (m : Int)) (mc : (m : Int) ≤ (c : Int)) (mc' : m ≤ c)
    (hs : (if cs < 1 then 1 else cs) = s') (hs2 : (if 1 < cs then cs else 1) = s')
    (HW : Hid (∀ w, Calls Try.prog 24 #[.int .i64 now] w fun e w' => e = .returned (.int .i64 now') ∧ Below w.heap.size w w'))
    (HS : Hid (∀ w, Calls Try.prog 24 #[.int .i64 s] w fun e w' => e = .returned (.int .i64 cs) ∧ Below w.heap.size w w')) :
    Calls Try.prog 17 #[.agg #[.int .u8 (op : Nat), .int .i64 q, .slice A n c, .int .i64 N, .int .i64 now, .int .i64 s]] w (ValEnd w (.agg #[.int .u8 2, .int .i64 1, .slice A m c, .int .i64 N, .int .i64 now', .int .i64 s'])) := by
  go_enter Try.func17, Try.ntmps17
  go_wp2_with fail
  with_reducible refine (HW.out _).mono ?_
  rintro e w1 ⟨rfl, hb⟩
  have k0 := ((BlkL.new w [.int .u8 2, .int .i64 1, .slice A m c, .int .i64 N, .int .i64 now, .int .i64 s] 39).alloc _).below hb
  have k1 := (BlkL.new _ [.int .u8 0, .int .i64 0, .slice none 0 0, .int .i64 0, .int .i64 0, .int .i64 0] 39).below hb
  simp only [World.size_alloc] at k1
  have HB := Lib.hid ((below_a2 w _ _).trans (hb.mono (by simp; omega)))
  clear hb
  have c0 := k0.cell 0 _ rfl
  have c1 := k0.cell 1 _ rfl
  have c2 := k0.cell 2 _ rfl
  have c3 := k0.cell 3 _ rfl
  have c4 := k0.cell 4 _ rfl
  have c5 := k0.cell 5 _ rfl
  have f3 := k0.froz 3 (by simp)
  have f4 := k0.froz 4 (by simp)
  have f5 := k0.froz 5 (by simp)
  have l0 := k0.lt
  have K0 := Lib.hid k0
  have K1 := Lib.hid k1
  clear k0 k1
  go_wp2_with fail
  with_reducible refine (HS.out _).mono ?_
  rintro e w2 ⟨rfl, hb⟩
  have k0 := (K0.out.set 4 (.int .i64 now') (by simp)).below hb
  have k1 := (K1.out.other w.heap.size 4 (.int .i64 now') (by omega)).below hb
  simp only [List.set_cons_zero, List.set_cons_succ] at k0
  have hb9 := (HB.out.setCell (p := ⟨w.heap.size, 4, none⟩) (Nat.le_refl _) (.int .i64 now')).trans (hb.mono (by have := HB.out.size; simpa [World.setCell] using this))
  clear hb HB K0 K1 c0 c1 c2 c3 c4 c5 f3 f4 f5 l0
  have HB := Lib.hid hb9
  clear hb9
  have c0 := k0.cell 0 _ rfl
  have c1 := k0.cell 1 _ rfl
  have c2 := k0.cell 2 _ rfl
  have c3 := k0.cell 3 _ rfl
  have c4 := k0.cell 4 _ rfl
  have c5 := k0.cell 5 _ rfl
  have f3 := k0.froz 3 (by simp)
  have f4 := k0.froz 4 (by simp)
  have f5 := k0.froz 5 (by simp)
  have l0 := k0.lt
  have K0 := Lib.hid k0
  have K1 := Lib.hid k1
  clear k0 k1
  have d0 := K1.out.cell 0 _ rfl
  have d1 := K1.out.cell 1 _ rfl
  have d2 := K1.out.cell 2 _ rfl
  have d3 := K1.out.cell 3 _ rfl
  have d4 := K1.out.cell 4 _ rfl
  have d5 := K1.out.cell 5 _ rfl
  have g0 := K1.out.froz 0 (by simp)
  have g1 := K1.out.froz 1 (by simp)
  have g2 := K1.out.froz 2 (by simp)
  have g3 := K1.out.froz 3 (by simp)
  have g4 := K1.out.froz 4 (by simp)
  have g5 := K1.out.froz 5 (by simp)
  have l1 := K1.out.lt
  go_wp2_with fail
  have bz := (K1.out.other w.heap.size 5 (.int .i64 s') (by omega)).put6 (.int .u8 2) (.int .i64 1) (.slice A m c) (.int .i64 N) (.int .i64 now') (.int .i64 s')
  have hb := below_put6 (HB.out.setCell (p := ⟨w.heap.size, 5, none⟩) (Nat.le_refl _) (.int .i64 s')) (b := w.heap.size + 1) (by omega) (.int .u8 2) (.int .i64 1) (.slice A m c) (.int .i64 N) (.int .i64 now') (.int .i64 s')
  have e0 := bz.cell 0 _ rfl
  have e1 := bz.cell 1 _ rfl
  have e2 := bz.cell 2 _ rfl
  have e3 := bz.cell 3 _ rfl
  have e4 := bz.cell 4 _ rfl
  have e5 := bz.cell 5 _ rfl
  clear bz K0 K1 HB c0 c1 c2 c3 c4 c5 f3 f4 f5 l0 d0 g0 d1 g1 d2 g2 d3 g3 d4 g4 d5 g5 l1
  generalize World.setCell _ _ _ = WZ at e0 e1 e2 e3 e4 e5 hb ⊢
  exact bodyPost_ret (v := .agg #[.int .u8 2, .int .i64 1, .slice A m c, .int .i64 N, .int .i64 now', .int .i64 s']) (by simp [results, Try.results17, go_sem, e0, e1, e2, e3, e4, e5]) rfl ⟨rfl, hb⟩

set_option maxHeartbeats 3200000 in
theorem fit_x3 (w : World) (q N now s N' now' s' cs : Int) (A : Option Addr) (n c m : Nat)
    (op : Nat)
    (d1 : decide ((op : Int) < 1) = false)
    (d2 : decide (6 < (op : Int)) = true)
    (hr1 : (op : Int).tmod 6 = 2)
    (hr2 : (op : Int) % 6 = 2)
    (hm : (if (n : Int) < 2 then (n : Int) else 2) = (m : Int)) (hm2 : (if (2 : Int) < (n : Int) then (2 : Int) else (n : Int)) = (m : Int)) (m0 : (0 : Int) ≤ (m : Int)) (mc : (m : Int) ≤ (c : Int)) (mc' : m ≤ c)
    (hs : (if cs < 1 then 1 else cs) = s') (hs2 : (if 1 < cs then cs else 1) = s')
    (HW : Hid (∀ w, Calls Try.prog 24 #[.int .i64 now] w fun e w' => e = .returned (.int .i64 now') ∧ Below w.heap.size w w'))
    (HS : Hid (∀ w, Calls Try.prog 24 #[.int .i64 s] w fun e w' => e = .returned (.int .i64 cs) ∧ Below w.heap.size w w')) :
    Calls Try.prog 17 #[.agg #[.int .u8 (op : Nat), .int .i64 q, .slice A n c, .int .i64 N, .int .i64 now, .int .i64 s]] w (ValEnd w (.agg #[.int .u8 3, .int .i64 1, .slice A m c, .int .i64 N, .int .i64 now', .int .i64 s'])) := by
  go_enter Try.func17, Try.ntmps17
  go_wp2_with fail
  with_reducible refine (HW.out _).mono ?_
  rintro e w1 ⟨rfl, hb⟩
  have k0 := ((BlkL.new w [.int .u8 3, .int .i64 1, .slice A m c, .int .i64 N, .int .i64 now, .int .i64 s] 39).alloc _).below hb
  have k1 := (BlkL.new _ [.int .u8 0, .int .i64 0, .slice none 0 0, .int .i64 0, .int .i64 0, .int .i64 0] 39).below hb
  simp only [World.size_alloc] at k1
  have HB := Lib.hid ((below_a2 w _ _).trans (hb.mono (by simp; omega)))
  clear hb
  have c0 := k0.cell 0 _ rfl
  have c1 := k0.cell 1 _ rfl
  have c2 := k0.cell 2 _ rfl
  have c3 := k0.cell 3 _ rfl
  have c4 := k0.cell 4 _ rfl
  have c5 := k0.cell 5 _ rfl
  have f3 := k0.froz 3 (by simp)
  have f4 := k0.froz 4 (by simp)
  have f5 := k0.froz 5 (by simp)
  have l0 := k0.lt
  have K0 := Lib.hid k0
  have K1 := Lib.hid k1
  clear k0 k1
  go_wp2_with fail
  with_reducible refine (HS.out _).mono ?_
  rintro e w2 ⟨rfl, hb⟩
  have k0 := (K0.out.set 4 (.int .i64 now') (by simp)).below hb
  have k1 := (K1.out.other w.heap.size 4 (.int .i64 now') (by omega)).below hb
  simp only [List.set_cons_zero, List.set_cons_succ] at k0
  have hb9 := (HB.out.setCell (p := ⟨w.heap.size, 4, none⟩) (Nat.le_refl _) (.int .i64 now')).trans (hb.mono (by have := HB.out.size; simpa [World.setCell] using this))
  clear hb HB K0 K1 c0 c1 c2 c3 c4 c5 f3 f4 f5 l0
  have HB := Lib.hid hb9
  clear hb9
  have c0 := k0.cell 0 _ rfl
  have c1 := k0.cell 1 _ rfl
  have c2 := k0.cell 2 _ rfl
  have c3 := k0.cell 3 _ rfl
  have c4 := k0.cell 4 _ rfl
  have c5 := k0.cell 5 _ rfl
  have f3 := k0.froz 3 (by simp)
  have f4 := k0.froz 4 (by simp)
  have f5 := k0.froz 5 (by simp)
  have l0 := k0.lt
  have K0 := Lib.hid k0
  have K1 := Lib.hid k1
  clear k0 k1
  have d0 := K1.out.cell 0 _ rfl
  have d1 := K1.out.cell 1 _ rfl
  have d2 := K1.out.cell 2 _ rfl
  have d3 := K1.out.cell 3 _ rfl
  have d4 := K1.out.cell 4 _ rfl
  have d5 := K1.out.cell 5 _ rfl
  have g0 := K1.out.froz 0 (by simp)
  have g1 := K1.out.froz 1 (by simp)
  have g2 := K1.out.froz 2 (by simp)
  have g3 := K1.out.froz 3 (by simp)
  have g4 := K1.out.froz 4 (by simp)
  have g5 := K1.out.froz 5 (by simp)
  have l1 := K1.out.lt
  go_wp2_with fail
  have bz := (K1.out.other w.heap.size 5 (.int .i64 s') (by omega)).put6 (.int .u8 3) (.int .i64 1) (.slice A m c) (.int .i64 N) (.int .i64 now') (.int .i64 s')
  have hb := below_put6 (HB.out.setCell (p := ⟨w.heap.size, 5, none⟩) (Nat.le_refl _) (.int .i64 s')) (b := w.heap.size + 1) (by omega) (.int .u8 3) (.int .i64 1) (.slice A m c) (.int .i64 N) (.int .i64 now') (.int .i64 s')
  have e0 := bz.cell 0 _ rfl
  have e1 := bz.cell 1 _ rfl
  have e2 := bz.cell 2 _ rfl
  have e3 := bz.cell 3 _ rfl
  have e4 := bz.cell 4 _ rfl
  have e5 := bz.cell 5 _ rfl
  clear bz K0 K1 HB c0 c1 c2 c3 c4 c5 f3 f4 f5 l0 d0 g0 d1 g1 d2 g2 d3 g3 d4 g4 d5 g5 l1
  generalize World.setCell _ _ _ = WZ at e0 e1 e2 e3 e4 e5 hb ⊢
  exact bodyPost_ret (v := .agg #[.int .u8 3, .int .i64 1, .slice A m c, .int .i64 N, .int .i64 now', .int .i64 s']) (by simp [results, Try.results17, go_sem, e0, e1, e2, e3, e4, e5]) rfl ⟨rfl, hb⟩

set_option maxHeartbeats 3200000 in
theorem fit_x5 (w : World) (q N now s N' now' s' cs : Int) (A : Option Addr) (n c m : Nat)
    (op : Nat)
    (d1 : decide ((op : Int) < 1) = false)
    (d2 : decide (6 < (op : Int)) = true)
    (hr1 : (op : Int).tmod 6 = 4)
    (hr2 : (op : Int) % 6 = 4)
    (hm : (if (n : Int) < 2 then (n : Int) else 2) = (m : Int)) (hm2 : (if (2 : Int) < (n : Int) then (2 : Int) else (n : Int)) = (m : Int)) (m0 : (0 : Int) ≤ (m : Int)) (mc : (m : Int) ≤ (c : Int)) (mc' : m ≤ c)
    (hs : (if cs < 1 then 1 else cs) = s') (hs2 : (if 1 < cs then cs else 1) = s')
    (HW : Hid (∀ w, Calls Try.prog 24 #[.int .i64 now] w fun e w' => e = .returned (.int .i64 now') ∧ Below w.heap.size w w'))
    (HS : Hid (∀ w, Calls Try.prog 24 #[.int .i64 s] w fun e w' => e = .returned (.int .i64 cs) ∧ Below w.heap.size w w')) :
    Calls Try.prog 17 #[.agg #[.int .u8 (op : Nat), .int .i64 q, .slice A n c, .int .i64 N, .int .i64 now, .int .i64 s]] w (ValEnd w (.agg #[.int .u8 5, .int .i64 0, .slice A m c, .int .i64 N, .int .i64 now', .int .i64 s'])) := by
  go_enter Try.func17, Try.ntmps17
  go_wp2_with fail
  with_reducible refine (HW.out _).mono ?_
  rintro e w1 ⟨rfl, hb⟩
  have k0 := ((BlkL.new w [.int .u8 5, .int .i64 0, .slice A m c, .int .i64 N, .int .i64 now, .int .i64 s] 39).alloc _).below hb
  have k1 := (BlkL.new _ [.int .u8 0, .int .i64 0, .slice none 0 0, .int .i64 0, .int .i64 0, .int .i64 0] 39).below hb
  simp only [World.size_alloc] at k1
  have HB := Lib.hid ((below_a2 w _ _).trans (hb.mono (by simp; omega)))
  clear hb
  have c0 := k0.cell 0 _ rfl
  have c1 := k0.cell 1 _ rfl
  have c2 := k0.cell 2 _ rfl
  have c3 := k0.cell 3 _ rfl
  have c4 := k0.cell 4 _ rfl
  have c5 := k0.cell 5 _ rfl
  have f3 := k0.froz 3 (by simp)
  have f4 := k0.froz 4 (by simp)
  have f5 := k0.froz 5 (by simp)
  have l0 := k0.lt
  have K0 := Lib.hid k0
  have K1 := Lib.hid k1
  clear k0 k1
  go_wp2_with fail
  with_reducible refine (HS.out _).mono ?_
  rintro e w2 ⟨rfl, hb⟩
  have k0 := (K0.out.set 4 (.int .i64 now') (by simp)).below hb
  have k1 := (K1.out.other w.heap.size 4 (.int .i64 now') (by omega)).below hb
  simp only [List.set_cons_zero, List.set_cons_succ] at k0
  have hb9 := (HB.out.setCell (p := ⟨w.heap.size, 4, none⟩) (Nat.le_refl _) (.int .i64 now')).trans (hb.mono (by have := HB.out.size; simpa [World.setCell] using this))
  clear hb HB K0 K1 c0 c1 c2 c3 c4 c5 f3 f4 f5 l0
  have HB := Lib.hid hb9
  clear hb9
  have c0 := k0.cell 0 _ rfl
  have c1 := k0.cell 1 _ rfl
  have c2 := k0.cell 2 _ rfl
  have c3 := k0.cell 3 _ rfl
  have c4 := k0.cell 4 _ rfl
  have c5 := k0.cell 5 _ rfl
  have f3 := k0.froz 3 (by simp)
  have f4 := k0.froz 4 (by simp)
  have f5 := k0.froz 5 (by simp)
  have l0 := k0.lt
  have K0 := Lib.hid k0
  have K1 := Lib.hid k1
  clear k0 k1
  have d0 := K1.out.cell 0 _ rfl
  have d1 := K1.out.cell 1 _ rfl
  have d2 := K1.out.cell 2 _ rfl
  have d3 := K1.out.cell 3 _ rfl
  have d4 := K1.out.cell 4 _ rfl
  have d5 := K1.out.cell 5 _ rfl
  have g0 := K1.out.froz 0 (by simp)
  have g1 := K1.out.froz 1 (by simp)
  have g2 := K1.out.froz 2 (by simp)
  have g3 := K1.out.froz 3 (by simp)
  have g4 := K1.out.froz 4 (by simp)
  have g5 := K1.out.froz 5 (by simp)
  have l1 := K1.out.lt
  go_wp2_with fail
  have bz := (K1.out.other w.heap.size 5 (.int .i64 s') (by omega)).put6 (.int .u8 5) (.int .i64 0) (.slice A m c) (.int .i64 N) (.int .i64 now') (.int .i64 s')
  have hb := below_put6 (HB.out.setCell (p := ⟨w.heap.size, 5, none⟩) (Nat.le_refl _) (.int .i64 s')) (b := w.heap.size + 1) (by omega) (.int .u8 5) (.int .i64 0) (.slice A m c) (.int .i64 N) (.int .i64 now') (.int .i64 s')
  have e0 := bz.cell 0 _ rfl
  have e1 := bz.cell 1 _ rfl
  have e2 := bz.cell 2 _ rfl
  have e3 := bz.cell 3 _ rfl
  have e4 := bz.cell 4 _ rfl
  have e5 := bz.cell 5 _ rfl
  clear bz K0 K1 HB c0 c1 c2 c3 c4 c5 f3 f4 f5 l0 d0 g0 d1 g1 d2 g2 d3 g3 d4 g4 d5 g5 l1
  generalize World.setCell _ _ _ = WZ at e0 e1 e2 e3 e4 e5 hb ⊢
  exact bodyPost_ret (v := .agg #[.int .u8 5, .int .i64 0, .slice A m c, .int .i64 N, .int .i64 now', .int .i64 s']) (by simp [results, Try.results17, go_sem, e0, e1, e2, e3, e4, e5]) rfl ⟨rfl, hb⟩

set_option maxHeartbeats 3200000 in
theorem fit_x6 (w : World) (q N now s N' now' s' cs : Int) (A : Option Addr) (n c m : Nat)
    (op : Nat)
    (d1 : decide ((op : Int) < 1) = false)
    (d2 : decide (6 < (op : Int)) = true)
    (hr1 : (op : Int).tmod 6 = 5)
    (hr2 : (op : Int) % 6 = 5)
    (hm : (if (n : Int) < 2 then (n : Int) else 2) = (m : Int)) (hm2 : (if (2 : Int) < (n : Int) then (2 : Int) else (n : Int)) = (m : Int)) (m0 : (0 : Int) ≤ (m : Int)) (mc : (m : Int) ≤ (c : Int)) (mc' : m ≤ c)
    (hs : (if cs < 1 then 1 else cs) = s') (hs2 : (if 1 < cs then cs else 1) = s')
    (HW : Hid (∀ w, Calls Try.prog 24 #[.int .i64 now] w fun e w' => e = .returned (.int .i64 now') ∧ Below w.heap.size w w'))
    (HS : Hid (∀ w, Calls Try.prog 24 #[.int .i64 s] w fun e w' => e = .returned (.int .i64 cs) ∧ Below w.heap.size w w')) :
    Calls Try.prog 17 #[.agg #[.int .u8 (op : Nat), .int .i64 q, .slice A n c, .int .i64 N, .int .i64 now, .int .i64 s]] w (ValEnd w (.agg #[.int .u8 6, .int .i64 0, .slice A m c, .int .i64 N, .int .i64 now', .int .i64 s'])) := by
  go_enter Try.func17, Try.ntmps17
  go_wp2_with fail
  with_reducible refine (HW.out _).mono ?_
  rintro e w1 ⟨rfl, hb⟩
  have k0 := ((BlkL.new w [.int .u8 6, .int .i64 0, .slice A m c, .int .i64 N, .int .i64 now, .int .i64 s] 39).alloc _).below hb
  have k1 := (BlkL.new _ [.int .u8 0, .int .i64 0, .slice none 0 0, .int .i64 0, .int .i64 0, .int .i64 0] 39).below hb
  simp only [World.size_alloc] at k1
  have HB := Lib.hid ((below_a2 w _ _).trans (hb.mono (by simp; omega)))
  clear hb
  have c0 := k0.cell 0 _ rfl
  have c1 := k0.cell 1 _ rfl
  have c2 := k0.cell 2 _ rfl
  have c3 := k0.cell 3 _ rfl
  have c4 := k0.cell 4 _ rfl
  have c5 := k0.cell 5 _ rfl
  have f3 := k0.froz 3 (by simp)
  have f4 := k0.froz 4 (by simp)
  have f5 := k0.froz 5 (by simp)
  have l0 := k0.lt
  have K0 := Lib.hid k0
  have K1 := Lib.hid k1
  clear k0 k1
  go_wp2_with fail
  with_reducible refine (HS.out _).mono ?_
  rintro e w2 ⟨rfl, hb⟩
  have k0 := (K0.out.set 4 (.int .i64 now') (by simp)).below hb
  have k1 := (K1.out.other w.heap.size 4 (.int .i64 now') (by omega)).below hb
  simp only [List.set_cons_zero, List.set_cons_succ] at k0
  have hb9 := (HB.out.setCell (p := ⟨w.heap.size, 4, none⟩) (Nat.le_refl _) (.int .i64 now')).trans (hb.mono (by have := HB.out.size; simpa [World.setCell] using this))
  clear hb HB K0 K1 c0 c1 c2 c3 c4 c5 f3 f4 f5 l0
  have HB := Lib.hid hb9
  clear hb9
  have c0 := k0.cell 0 _ rfl
  have c1 := k0.cell 1 _ rfl
  have c2 := k0.cell 2 _ rfl
  have c3 := k0.cell 3 _ rfl
  have c4 := k0.cell 4 _ rfl
  have c5 := k0.cell 5 _ rfl
  have f3 := k0.froz 3 (by simp)
  have f4 := k0.froz 4 (by simp)
  have f5 := k0.froz 5 (by simp)
  have l0 := k0.lt
  have K0 := Lib.hid k0
  have K1 := Lib.hid k1
  clear k0 k1
  have d0 := K1.out.cell 0 _ rfl
  have d1 := K1.out.cell 1 _ rfl
  have d2 := K1.out.cell 2 _ rfl
  have d3 := K1.out.cell 3 _ rfl
  have d4 := K1.out.cell 4 _ rfl
  have d5 := K1.out.cell 5 _ rfl
  have g0 := K1.out.froz 0 (by simp)
  have g1 := K1.out.froz 1 (by simp)
  have g2 := K1.out.froz 2 (by simp)
  have g3 := K1.out.froz 3 (by simp)
  have g4 := K1.out.froz 4 (by simp)
  have g5 := K1.out.froz 5 (by simp)
  have l1 := K1.out.lt
  go_wp2_with fail
  have bz := (K1.out.other w.heap.size 5 (.int .i64 s') (by omega)).put6 (.int .u8 6) (.int .i64 0) (.slice A m c) (.int .i64 N) (.int .i64 now') (.int .i64 s')
  have hb := below_put6 (HB.out.setCell (p := ⟨w.heap.size, 5, none⟩) (Nat.le_refl _) (.int .i64 s')) (b := w.heap.size + 1) (by omega) (.int .u8 6) (.int .i64 0) (.slice A m c) (.int .i64 N) (.int .i64 now') (.int .i64 s')
  have e0 := bz.cell 0 _ rfl
  have e1 := bz.cell 1 _ rfl
  have e2 := bz.cell 2 _ rfl
  have e3 := bz.cell 3 _ rfl
  have e4 := bz.cell 4 _ rfl
  have e5 := bz.cell 5 _ rfl
  clear bz K0 K1 HB c0 c1 c2 c3 c4 c5 f3 f4 f5 l0 d0 g0 d1 g1 d2 g2 d3 g3 d4 g4 d5 g5 l1
  generalize World.setCell _ _ _ = WZ at e0 e1 e2 e3 e4 e5 hb ⊢
  exact bodyPost_ret (v := .agg #[.int .u8 6, .int .i64 0, .slice A m c, .int .i64 N, .int .i64 now', .int .i64 s']) (by simp [results, Try.results17, go_sem, e0, e1, e2, e3, e4, e5]) rfl ⟨rfl, hb⟩

set_option maxHeartbeats 3200000 in
theorem fit_x4e (w : World) (q N now s N' now' s' cs : Int) (A : Option Addr) (n c m : Nat)
    (op : Nat)
    (d1 : decide ((op : Int) < 1) = false)
    (d2 : decide (6 < (op : Int)) = true)
    (hr1 : (op : Int).tmod 6 = 3)
    (hr2 : (op : Int) % 6 = 3)
    (hev : (N.tmod 2 == 0) = true)
    (hm : (if (n : Int) < 2 then (n : Int) else 2) = (m : Int)) (hm2 : (if (2 : Int) < (n : Int) then (2 : Int) else (n : Int)) = (m : Int)) (m0 : (0 : Int) ≤ (m : Int)) (mc : (m : Int) ≤ (c : Int)) (mc' : m ≤ c)
    (hs : (if cs < 1 then 1 else cs) = s') (hs2 : (if 1 < cs then cs else 1) = s')
    (HW : Hid (∀ w, Calls Try.prog 24 #[.int .i64 now] w fun e w' => e = .returned (.int .i64 now') ∧ Below w.heap.size w w'))
    (HS : Hid (∀ w, Calls Try.prog 24 #[.int .i64 s] w fun e w' => e = .returned (.int .i64 cs) ∧ Below w.heap.size w w')) :
    Calls Try.prog 17 #[.agg #[.int .u8 (op : Nat), .int .i64 q, .slice A n c, .int .i64 N, .int .i64 now, .int .i64 s]] w (ValEnd w (.agg #[.int .u8 4, .int .i64 1, .slice A m c, .int .i64 N, .int .i64 now', .int .i64 s'])) := by
  go_enter Try.func17, Try.ntmps17
  go_wp2_with fail
  with_reducible refine (HW.out _).mono ?_
  rintro e w1 ⟨rfl, hb⟩
  have k0 := ((BlkL.new w [.int .u8 4, .int .i64 1, .slice A m c, .int .i64 N, .int .i64 now, .int .i64 s] 39).alloc _).below hb
  have k1 := (BlkL.new _ [.int .u8 0, .int .i64 0, .slice none 0 0, .int .i64 0, .int .i64 0, .int .i64 0] 39).below hb
  simp only [World.size_alloc] at k1
  have HB := Lib.hid ((below_a2 w _ _).trans (hb.mono (by simp; omega)))
  clear hb
  have c0 := k0.cell 0 _ rfl
  have c1 := k0.cell 1 _ rfl
  have c2 := k0.cell 2 _ rfl
  have c3 := k0.cell 3 _ rfl
  have c4 := k0.cell 4 _ rfl
  have c5 := k0.cell 5 _ rfl
  have f3 := k0.froz 3 (by simp)
  have f4 := k0.froz 4 (by simp)
  have f5 := k0.froz 5 (by simp)
  have l0 := k0.lt
  have K0 := Lib.hid k0
  have K1 := Lib.hid k1
  clear k0 k1
  go_wp2_with fail
  with_reducible refine (HS.out _).mono ?_
  rintro e w2 ⟨rfl, hb⟩
  have k0 := (K0.out.set 4 (.int .i64 now') (by simp)).below hb
  have k1 := (K1.out.other w.heap.size 4 (.int .i64 now') (by omega)).below hb
  simp only [List.set_cons_zero, List.set_cons_succ] at k0
  have hb9 := (HB.out.setCell (p := ⟨w.heap.size, 4, none⟩) (Nat.le_refl _) (.int .i64 now')).trans (hb.mono (by have := HB.out.size; simpa [World.setCell] using this))
  clear hb HB K0 K1 c0 c1 c2 c3 c4 c5 f3 f4 f5 l0
  have HB := Lib.hid hb9
  clear hb9
  have c0 := k0.cell 0 _ rfl
  have c1 := k0.cell 1 _ rfl
  have c2 := k0.cell 2 _ rfl
  have c3 := k0.cell 3 _ rfl
  have c4 := k0.cell 4 _ rfl
  have c5 := k0.cell 5 _ rfl
  have f3 := k0.froz 3 (by simp)
  have f4 := k0.froz 4 (by simp)
  have f5 := k0.froz 5 (by simp)
  have l0 := k0.lt
  have K0 := Lib.hid k0
  have K1 := Lib.hid k1
  clear k0 k1
  have d0 := K1.out.cell 0 _ rfl
  have d1 := K1.out.cell 1 _ rfl
  have d2 := K1.out.cell 2 _ rfl
  have d3 := K1.out.cell 3 _ rfl
  have d4 := K1.out.cell 4 _ rfl
  have d5 := K1.out.cell 5 _ rfl
  have g0 := K1.out.froz 0 (by simp)
  have g1 := K1.out.froz 1 (by simp)
  have g2 := K1.out.froz 2 (by simp)
  have g3 := K1.out.froz 3 (by simp)
  have g4 := K1.out.froz 4 (by simp)
  have g5 := K1.out.froz 5 (by simp)
  have l1 := K1.out.lt
  go_wp2_with fail
  have bz := (K1.out.other w.heap.size 5 (.int .i64 s') (by omega)).put6 (.int .u8 4) (.int .i64 1) (.slice A m c) (.int .i64 N) (.int .i64 now') (.int .i64 s')
  have hb := below_put6 (HB.out.setCell (p := ⟨w.heap.size, 5, none⟩) (Nat.le_refl _) (.int .i64 s')) (b := w.heap.size + 1) (by omega) (.int .u8 4) (.int .i64 1) (.slice A m c) (.int .i64 N) (.int .i64 now') (.int .i64 s')
  have e0 := bz.cell 0 _ rfl
  have e1 := bz.cell 1 _ rfl
  have e2 := bz.cell 2 _ rfl
  have e3 := bz.cell 3 _ rfl
  have e4 := bz.cell 4 _ rfl
  have e5 := bz.cell 5 _ rfl
  clear bz K0 K1 HB c0 c1 c2 c3 c4 c5 f3 f4 f5 l0 d0 g0 d1 g1 d2 g2 d3 g3 d4 g4 d5 g5 l1
  generalize World.setCell _ _ _ = WZ at e0 e1 e2 e3 e4 e5 hb ⊢
  exact bodyPost_ret (v := .agg #[.int .u8 4, .int .i64 1, .slice A m c, .int .i64 N, .int .i64 now', .int .i64 s']) (by simp [results, Try.results17, go_sem, e0, e1, e2, e3, e4, e5]) rfl ⟨rfl, hb⟩

set_option maxHeartbeats 3200000 in
theorem fit_x4o (w : World) (q N now s N' now' s' cs : Int) (A : Option Addr) (n c m : Nat)
    (op : Nat)
    (d1 : decide ((op : Int) < 1) = false)
    (d2 : decide (6 < (op : Int)) = true)
    (hr1 : (op : Int).tmod 6 = 3)
    (hr2 : (op : Int) % 6 = 3)
    (hev : (N.tmod 2 == 0) = false)
    (hm : (if (n : Int) < 2 then (n : Int) else 2) = (m : Int)) (hm2 : (if (2 : Int) < (n : Int) then (2 : Int) else (n : Int)) = (m : Int)) (m0 : (0 : Int) ≤ (m : Int)) (mc : (m : Int) ≤ (c : Int)) (mc' : m ≤ c)
    (hs : (if cs < 1 then 1 else cs) = s') (hs2 : (if 1 < cs then cs else 1) = s')
    (HW : Hid (∀ w, Calls Try.prog 24 #[.int .i64 now] w fun e w' => e = .returned (.int .i64 now') ∧ Below w.heap.size w w'))
    (HS : Hid (∀ w, Calls Try.prog 24 #[.int .i64 s] w fun e w' => e = .returned (.int .i64 cs) ∧ Below w.heap.size w w')) :
    Calls Try.prog 17 #[.agg #[.int .u8 (op : Nat), .int .i64 q, .slice A n c, .int .i64 N, .int .i64 now, .int .i64 s]] w (ValEnd w (.agg #[.int .u8 4, .int .i64 0, .slice A m c, .int .i64 N, .int .i64 now', .int .i64 s'])) := by
  go_enter Try.func17, Try.ntmps17
  go_wp2_with fail
  with_reducible refine (HW.out _).mono ?_
  rintro e w1 ⟨rfl, hb⟩
  have k0 := ((BlkL.new w [.int .u8 4, .int .i64 0, .slice A m c, .int .i64 N, .int .i64 now, .int .i64 s] 39).alloc _).below hb
  have k1 := (BlkL.new _ [.int .u8 0, .int .i64 0, .slice none 0 0, .int .i64 0, .int .i64 0, .int .i64 0] 39).below hb
  simp only [World.size_alloc] at k1
  have HB := Lib.hid ((below_a2 w _ _).trans (hb.mono (by simp; omega)))
  clear hb
  have c0 := k0.cell 0 _ rfl
  have c1 := k0.cell 1 _ rfl
  have c2 := k0.cell 2 _ rfl
  have c3 := k0.cell 3 _ rfl
  have c4 := k0.cell 4 _ rfl
  have c5 := k0.cell 5 _ rfl
  have f3 := k0.froz 3 (by simp)
  have f4 := k0.froz 4 (by simp)
  have f5 := k0.froz 5 (by simp)
  have l0 := k0.lt
  have K0 := Lib.hid k0
  have K1 := Lib.hid k1
  clear k0 k1
  go_wp2_with fail
  with_reducible refine (HS.out _).mono ?_
  rintro e w2 ⟨rfl, hb⟩
  have k0 := (K0.out.set 4 (.int .i64 now') (by simp)).below hb
  have k1 := (K1.out.other w.heap.size 4 (.int .i64 now') (by omega)).below hb
  simp only [List.set_cons_zero, List.set_cons_succ] at k0
  have hb9 := (HB.out.setCell (p := ⟨w.heap.size, 4, none⟩) (Nat.le_refl _) (.int .i64 now')).trans (hb.mono (by have := HB.out.size; simpa [World.setCell] using this))
  clear hb HB K0 K1 c0 c1 c2 c3 c4 c5 f3 f4 f5 l0
  have HB := Lib.hid hb9
  clear hb9
  have c0 := k0.cell 0 _ rfl
  have c1 := k0.cell 1 _ rfl
  have c2 := k0.cell 2 _ rfl
  have c3 := k0.cell 3 _ rfl
  have c4 := k0.cell 4 _ rfl
  have c5 := k0.cell 5 _ rfl
  have f3 := k0.froz 3 (by simp)
  have f4 := k0.froz 4 (by simp)
  have f5 := k0.froz 5 (by simp)
  have l0 := k0.lt
  have K0 := Lib.hid k0
  have K1 := Lib.hid k1
  clear k0 k1
  have d0 := K1.out.cell 0 _ rfl
  have d1 := K1.out.cell 1 _ rfl
  have d2 := K1.out.cell 2 _ rfl
  have d3 := K1.out.cell 3 _ rfl
  have d4 := K1.out.cell 4 _ rfl
  have d5 := K1.out.cell 5 _ rfl
  have g0 := K1.out.froz 0 (by simp)
  have g1 := K1.out.froz 1 (by simp)
  have g2 := K1.out.froz 2 (by simp)
  have g3 := K1.out.froz 3 (by simp)
  have g4 := K1.out.froz 4 (by simp)
  have g5 := K1.out.froz 5 (by simp)
  have l1 := K1.out.lt
  go_wp2_with fail
  have bz := (K1.out.other w.heap.size 5 (.int .i64 s') (by omega)).put6 (.int .u8 4) (.int .i64 0) (.slice A m c) (.int .i64 N) (.int .i64 now') (.int .i64 s')
  have hb := below_put6 (HB.out.setCell (p := ⟨w.heap.size, 5, none⟩) (Nat.le_refl _) (.int .i64 s')) (b := w.heap.size + 1) (by omega) (.int .u8 4) (.int .i64 0) (.slice A m c) (.int .i64 N) (.int .i64 now') (.int .i64 s')
  have e0 := bz.cell 0 _ rfl
  have e1 := bz.cell 1 _ rfl
  have e2 := bz.cell 2 _ rfl
  have e3 := bz.cell 3 _ rfl
  have e4 := bz.cell 4 _ rfl
  have e5 := bz.cell 5 _ rfl
  clear bz K0 K1 HB c0 c1 c2 c3 c4 c5 f3 f4 f5 l0 d0 g0 d1 g1 d2 g2 d3 g3 d4 g4 d5 g5 l1
  generalize World.setCell _ _ _ = WZ at e0 e1 e2 e3 e4 e5 hb ⊢
  exact bodyPost_ret (v := .agg #[.int .u8 4, .int .i64 0, .slice A m c, .int .i64 N, .int .i64 now', .int .i64 s']) (by simp [results, Try.results17, go_sem, e0, e1, e2, e3, e4, e5]) rfl ⟨rfl, hb⟩
end Go.Proofs.Ytnkecjjfbllgdaa


/- fit, whole; a script of asks: as cells. -/
namespace Go.Proofs.Ytnkecjjfbllgdaa
open Go.RowKit
set_option maxRecDepth 100000
set_option linter.unusedVariables false

def fitOp6 (op : Nat) : Nat := if op < 1 ∨ 6 < op then 1 + op % 6 else op
theorem fitOp6_le (op : Nat) : 1 ≤ fitOp6 op ∧ fitOp6 op ≤ 6 := by unfold fitOp6; split <;> omega
def fitQ (o : Nat) (N : Int) : Nat := if o = 2 ∨ o = 3 ∨ (o = 4 ∧ (N.tmod 2 == 0) = true) then 1 else 0
def fitN (o : Nat) (N : Int) : Int := if o = 1 then clampV N else N
def fitS (s : Int) : Int := if clampV s < 1 then 1 else clampV s
theorem fitS_ge (s : Int) : 1 ≤ fitS s ∧ fitS s ≤ 4611686018427387903 := by unfold fitS clampV; split <;> (try split) <;> (try split) <;> omega

theorem fit16_any (w : World) (op : Nat) (q N now s : Int) (A : Option Addr) (n c : Nat) (ho : op ≤ 255) (hN : N ≤ 9223372036854775807) (hnow : now ≤ 9223372036854775807) (hs : s ≤ 9223372036854775807) (hnc : n ≤ c) :
    Calls Try.prog 17 #[.agg #[.int .u8 (op : Nat), .int .i64 q, .slice A n c, .int .i64 N, .int .i64 now, .int .i64 s]] w
      (ValEnd w (.agg #[.int .u8 (fitOp6 op : Nat), .int .i64 (fitQ (fitOp6 op) N : Nat), .slice A (min n 2) c, .int .i64 (fitN (fitOp6 op) N), .int .i64 (clampV now), .int .i64 (fitS s)])) := by
  have hm : (if (n : Int) < 2 then (n : Int) else 2) = ((min n 2 : Nat) : Int) := by split <;> omega
  have hm2 : (if (2 : Int) < (n : Int) then (2 : Int) else (n : Int)) = ((min n 2 : Nat) : Int) := by split <;> omega
  have m0 : (0 : Int) ≤ ((min n 2 : Nat) : Int) := by omega
  have mc : ((min n 2 : Nat) : Int) ≤ (c : Int) := by omega
  have mc' : min n 2 ≤ c := by omega
  have hs1 : (if clampV s < 1 then 1 else clampV s) = fitS s := rfl
  have hs2 : (if 1 < clampV s then clampV s else 1) = fitS s := by unfold fitS; split <;> split <;> omega
  have HN := Lib.hid (fun w => rclamp_any w N hN)
  have HW := Lib.hid (fun w => rclamp_any w now hnow)
  have HS := Lib.hid (fun w => rclamp_any w s hs)
  by_cases hr : op < 1 ∨ 6 < op
  · have hf : fitOp6 op = 1 + op % 6 := by unfold fitOp6; rw [if_pos hr]
    rw [hf]
    rcases Nat.eq_zero_or_pos op with rfl | hp
    · exact fit_0 w q N now s (clampV N) (clampV now) (fitS s) (clampV s) A n c (min n 2) hm hm2 m0 mc mc' hs1 hs2 HN HW HS
    · have d1 : decide ((op : Int) < 1) = false := decide_eq_false (by omega)
      have d2 : decide (6 < (op : Int)) = true := decide_eq_true (by omega)
      have ht : (op : Int).tmod 6 = (op : Int) % 6 := Int.tmod_eq_emod_of_nonneg (by omega)
      have hlt : op % 6 < 6 := Nat.mod_lt _ (by omega)
      have hc : op % 6 = 0 ∨ op % 6 = 1 ∨ op % 6 = 2 ∨ op % 6 = 3 ∨ op % 6 = 4 ∨ op % 6 = 5 := by omega
      rcases hc with h | h | h | h | h | h
      · rw [h]; exact fit_x1 w q N now s (clampV N) (clampV now) (fitS s) (clampV s) A n c (min n 2) op d1 d2 (by rw [ht]; omega) (by omega) hm hm2 m0 mc mc' hs1 hs2 HN HW HS
      · rw [h]; exact fit_x2 w q N now s (clampV N) (clampV now) (fitS s) (clampV s) A n c (min n 2) op d1 d2 (by rw [ht]; omega) (by omega) hm hm2 m0 mc mc' hs1 hs2 HW HS
      · rw [h]; exact fit_x3 w q N now s (clampV N) (clampV now) (fitS s) (clampV s) A n c (min n 2) op d1 d2 (by rw [ht]; omega) (by omega) hm hm2 m0 mc mc' hs1 hs2 HW HS
      · rw [h]
        rcases hev : (N.tmod 2 == 0) with _ | _
        · have e : fitQ (1 + 3) N = 0 := by unfold fitQ; rw [hev]; rfl
          rw [e]; exact fit_x4o w q N now s (clampV N) (clampV now) (fitS s) (clampV s) A n c (min n 2) op d1 d2 (by rw [ht]; omega) (by omega) hev hm hm2 m0 mc mc' hs1 hs2 HW HS
        · have e : fitQ (1 + 3) N = 1 := by unfold fitQ; rw [hev]; rfl
          rw [e]; exact fit_x4e w q N now s (clampV N) (clampV now) (fitS s) (clampV s) A n c (min n 2) op d1 d2 (by rw [ht]; omega) (by omega) hev hm hm2 m0 mc mc' hs1 hs2 HW HS
      · rw [h]; exact fit_x5 w q N now s (clampV N) (clampV now) (fitS s) (clampV s) A n c (min n 2) op d1 d2 (by rw [ht]; omega) (by omega) hm hm2 m0 mc mc' hs1 hs2 HW HS
      · rw [h]; exact fit_x6 w q N now s (clampV N) (clampV now) (fitS s) (clampV s) A n c (min n 2) op d1 d2 (by rw [ht]; omega) (by omega) hm hm2 m0 mc mc' hs1 hs2 HW HS
  · have hf : fitOp6 op = op := by unfold fitOp6; rw [if_neg hr]
    rw [hf]
    have hc : op = 1 ∨ op = 2 ∨ op = 3 ∨ op = 4 ∨ op = 5 ∨ op = 6 := by omega
    rcases hc with rfl | rfl | rfl | rfl | rfl | rfl
    · exact fit_1 w q N now s (clampV N) (clampV now) (fitS s) (clampV s) A n c (min n 2) hm hm2 m0 mc mc' hs1 hs2 HN HW HS
    · exact fit_2 w q N now s (clampV N) (clampV now) (fitS s) (clampV s) A n c (min n 2) hm hm2 m0 mc mc' hs1 hs2 HW HS
    · exact fit_3 w q N now s (clampV N) (clampV now) (fitS s) (clampV s) A n c (min n 2) hm hm2 m0 mc mc' hs1 hs2 HW HS
    · rcases hev : (N.tmod 2 == 0) with _ | _
      · have e : fitQ 4 N = 0 := by unfold fitQ; rw [hev]; rfl
        rw [e]; exact fit_4o w q N now s (clampV N) (clampV now) (fitS s) (clampV s) A n c (min n 2) hev hm hm2 m0 mc mc' hs1 hs2 HW HS
      · have e : fitQ 4 N = 1 := by unfold fitQ; rw [hev]; rfl
        rw [e]; exact fit_4e w q N now s (clampV N) (clampV now) (fitS s) (clampV s) A n c (min n 2) hev hm hm2 m0 mc mc' hs1 hs2 HW HS
    · exact fit_5 w q N now s (clampV N) (clampV now) (fitS s) (clampV s) A n c (min n 2) hm hm2 m0 mc mc' hs1 hs2 HW HS
    · exact fit_6 w q N now s (clampV N) (clampV now) (fitS s) (clampV s) A n c (min n 2) hm hm2 m0 mc mc' hs1 hs2 HW HS
end Go.Proofs.Ytnkecjjfbllgdaa


/- Do of a call that fit has made, of a book with room; how many cells there are. -/
namespace Go.Proofs.Ytnkecjjfbllgdaa
open Go.RowKit Go.Maps
set_option maxRecDepth 100000
set_option linter.unusedVariables false

/-- What stands behind a call. -/
def actM (l : List PolM) (M : BkMap) (o p : Nat) (zs : List Nat) (N : Int) (now : Nat) (s : Int) : BkMap :=
  if o = 5 then evictB M now else if o = 6 then M else afterB M (p :: zs) (cellM (l.getD p noPol) (getB M (p :: zs)) o N now s)

section
variable {w : World} {b n c room mb k : Nat} {A : Option Addr} {l : List PolM} {M : BkMap}
/-- Of a map with one key there is at most one entry. -/
theorem BkX.one (h : BkX w b A n c l room mb k M) (z0 : List Nat) (hz : ∀ z c, M z = some c → z = z0) : k ≤ 1 := by
  obtain ⟨D, hown, _, hM⟩ := h.r.map
  have hsz : Maps.size D = k := by
    obtain ⟨D', h1, h2⟩ := h.e
    rw [own_uniq hown h1]
    exact h2
  obtain ⟨es, ck, hb, F, hs, rfl⟩ := hown
  obtain ⟨ts, e1, hp, hk⟩ := World.ownsMap.entries (⟨es, ck, hb, F, hs, rfl⟩ : w.ownsMap Try.prog 9 RV mb _ _) keyed
  rw [e1] at hsz hM
  have hall : ∀ p ∈ ts, p.1 = keyL z0 := by
    intro p hpm
    have hmem : p ∈ (es.toList.map (WideElems.rg Try.prog 9 RV)).foldr DataW.insert [] := by
      have : (DataW.map ((es.toList.map (WideElems.rg Try.prog 9 RV)).foldr DataW.insert [])) = DataW.map ts := e1
      injection this with this
      rw [this]
      exact hpm
    obtain ⟨x, hx, hxe⟩ := List.mem_map.1 (mem_sorted.1 hmem)
    obtain ⟨y, hy⟩ := F.reads x hx
    have hkey := WideElems.rd_key hy
    obtain ⟨z, hzb, _, e3⟩ := key_inv hkey
    have e4 : p.1 = keyL z := by rw [← hxe, WideElems.rg_of hy, ← e3]
    have hhas : Maps.has (DataW.map ts) (keyL z) = true := by
      rw [← e4]
      exact List.any_eq_true.2 ⟨p, hpm, WideAt.sameKey_self (hk p hpm)⟩
    rcases hm : M z with _ | cc
    · rw [hM.no z hzb hm] at hhas; cases hhas
    · rw [e4, hz z cc hm]
  have hlen : ts.length ≤ 1 := by
    rcases ts with _ | ⟨a, _ | ⟨b', r⟩⟩
    · simp
    · simp
    · exfalso
      have h1 := (List.pairwise_cons.1 hp).1 b' (by simp)
      exact h1 ((hall a (by simp)).trans (hall b' (by simp)).symm)
  show k ≤ 1
  rw [← hsz]
  exact hlen

theorem book_fit (hX : BkX w b A n c l room mb k M) (o p kn kc now : Nat) (KA : Option Addr) (zs : List Nat) (N s : Int) (ho : 1 ≤ o ∧ o ≤ 6) (hp : p < l.length) (hkd : kindB o (l.getD p noPol).kind = true)
    (hkey : Arg w w.heap.size KA kn kc zs) (hkn : kn ≤ 255) (hN : o = 1 → isTick N = true) (hnow : now ≤ 4611686018427387903) (hs : 1 ≤ s ∧ s ≤ 4611686018427387903) (hk : k < room) :
    Calls Try.prog 18 #[.pointer (some ⟨b, 0, none⟩), .agg #[.int .u8 (o : Nat), .int .i64 (p : Nat), .slice KA kn kc, .int .i64 N], .int .i64 (now : Nat), .int .i64 s] w
      fun e w' => ∃ (r : RepM) (k' : Nat), e = .returned (.agg #[.int .i64 r.e, .bool r.g, .int .i64 r.l, .int .i64 r.wt, .int .i64 r.s, .int .i64 r.now]) ∧ BkX w' b A n c l room mb k' (actM l M o p zs N now s) ∧ k' ≤ k + 1 ∧
        (o ≤ 4 → r = (cellM (l.getD p noPol) (getB M (p :: zs)) o N now s).1) ∧ Off [mb] w w' := by
  have hroom := hX.r.room
  have hc : o ≤ 4 ∨ o = 5 ∨ o = 6 := by omega
  rcases hc with h4 | rfl | rfl
  · refine (book_do w b n c room mb k o p kn kc now A KA l M N s zs hX (by omega) hp hkd hkey hkn hN hnow (fun _ => hs) (by omega) (.inr hk)).mono ?_
    rintro e w' ⟨he, hb, hf⟩
    have e1 : actM l M o p zs N now s = afterB M (p :: zs) (cellM (l.getD p noPol) (getB M (p :: zs)) o N now s) := by unfold actM; rw [if_neg (by omega), if_neg (by omega)]
    refine ⟨_, _, he, by rw [e1]; exact hb, ?_, fun _ => rfl, hf⟩
    unfold sizeB
    split <;> omega
  · refine (book_evict w b n c room mb k kn kc now A KA l M (p : Int) N s hX hnow (by omega)).mono ?_
    rintro e w' ⟨k', hk', he, hb, hf⟩
    exact ⟨⟨0, false, (k : Int) - (k' : Int), 0, 0, (now : Nat)⟩, k', he, by unfold actM; rw [if_pos rfl]; exact hb, by omega, fun h => by omega, hf⟩
  · refine (book_split w b n c room mb k kn kc now A KA l M (p : Int) N s hX hnow).mono ?_
    rintro e w' ⟨he, hb⟩
    exact ⟨⟨0, false, 0, 0, 0, 0⟩, k, he, by unfold actM; rw [if_neg (by omega), if_pos rfl]; exact hX.below hb, by omega, fun h => by omega, Off.of_below hb⟩
end

theorem tick_clamp (a : Int) : isTick (clampV a) = true := by
  unfold clampV
  refine isTick_iff.2 ?_
  split
  · omega
  · split <;> omega
theorem fit_kind (o : Nat) (N : Int) (h : 1 ≤ o ∧ o ≤ 6) (l : List PolM) (h0 : (l.getD 0 noPol).kind = 1) (h1 : (l.getD 1 noPol).kind = 2) : kindB o (l.getD (fitQ o N) noPol).kind = true := by
  have hc : o = 1 ∨ o = 2 ∨ o = 3 ∨ o = 4 ∨ o = 5 ∨ o = 6 := by omega
  rcases hc with rfl | rfl | rfl | rfl | rfl | rfl
  · have e : fitQ 1 N = 0 := by unfold fitQ; simp
    rw [e, h0]; rfl
  · have e : fitQ 2 N = 1 := by unfold fitQ; simp
    rw [e, h1]; rfl
  · have e : fitQ 3 N = 1 := by unfold fitQ; simp
    rw [e, h1]; rfl
  · rfl
  · rfl
  · rfl
theorem fitQ_lt (o : Nat) (N : Int) : fitQ o N < 2 := by unfold fitQ; split <;> omega
theorem fitN_tick (o : Nat) (N : Int) : o = 1 → isTick (fitN o N) = true := fun e => by unfold fitN; rw [if_pos e]; exact tick_clamp N
end Go.Proofs.Ytnkecjjfbllgdaa


/- New: a book without cells. -/
namespace Go.Proofs.Ytnkecjjfbllgdaa
open Go.RowKit Go.Maps
set_option maxRecDepth 100000
set_option linter.unusedVariables false

section
variable {w w' : World} {B B' k n c g : Nat} {A : Option Addr} {cs : List Value} {T : TypeId}
theorem OwnC.stored (h : OwnC w B T k (some ⟨g, 0, none⟩) n c cs) (j : Nat) (v : Value) : OwnC (w.setCell ⟨g, j, none⟩ v) B T k (some ⟨g, 0, none⟩) n c (cs.set j v) := (World.ownsRow.stored (w := w) h j v).1
theorem OwnC.grd (h : OwnC w B T k (some ⟨g, 0, none⟩) n c cs) : B ≤ g ∧ g < w.heap.size := by
  rcases h.2 with ⟨h1, h2⟩ | ⟨g', cap, cur, h1, hB, hg, _⟩
  · simp at h1
  · simp only [Value.slice.injEq, Option.some.injEq, Addr.mk.injEq, and_true, true_and] at h1
    obtain ⟨rfl, rfl⟩ := h1
    refine ⟨hB, ?_⟩
    rcases Nat.lt_or_ge g w.heap.size with h | h
    · exact h
    · rw [Array.getElem?_eq_none h] at hg; cases hg
theorem OwnC.frozenAt (h : OwnC w B T k (some ⟨g, 0, none⟩) n c cs) (j : Nat) : w.frozen? ⟨g, j, none⟩ = false := World.ownsRow.frozenAt h j
theorem OwnC.at0 (h : OwnC w B T k A n c cs) (hn : 0 < n) : ∃ g, A = some ⟨g, 0, none⟩ ∧ ∀ j, j < n * k → w.cell? ⟨g, j, none⟩ = cs[j]? := by
  have hh := h
  rcases h.2 with ⟨h1, h2⟩ | ⟨g, cap, cur, h1, h2, h3, h4, h5, h6, h7⟩
  · omega
  · simp only [Value.slice.injEq, true_and] at h1
    obtain ⟨rfl, rfl⟩ := h1
    exact ⟨g, rfl, fun j hj => World.ownsRow.cellAt (w := w) hh j hj⟩
theorem OwnC.lit0 (w : World) (T : TypeId) (k : Nat) : OwnC (w.alloc (.cells #[] T)) w.heap.size T k (some ⟨w.heap.size, 0, none⟩) 0 0 [] := by
  have h := World.ownsRow_lit (base := w.heap.size) (e := T) (size := k) w #[] 0 (Nat.le_refl _) (by unfold maxLen; omega) (by simp)
  unfold OwnC
  simpa using h
end

/-- An append of structs that are read from wherever they lie. -/
theorem wpList_append_rows {w : World} {ops : Array Oper} {rest : List Oper} {o : Oper} {a : Act} {Q : Exit → Act → World → Prop} (hgd : o.guard = none) (s x : Operand) (t : TypeId)
    (ho : o.op = .call { callee := .builtin .append, args := #[s, x], argTypes := #[t, t] })
    (base : Nat) (e : TypeId) (z : Value) (k bytes : Nat) (ht : Try.prog.underlying t = some (.slice e)) (hinfo : (Try.prog.info? e).map (fun i => (i.zero, i.size, i.bytes)) = some (some z, k, bytes)) (hz : z.cells.size = k) (hk : 0 < k)
    (A : Option Addr) (n c : Nat) (cs : List Value) (hs : a.eval s = .slice A n c) (hown : OwnC w base e k A n c cs)
    (B : Nat) (S : Option Addr) (m d : Nat) (vs : List Value) (hx : a.eval x = .slice S m d) (hr : ArgC w B k S m d vs) (h1 : ∀ u ∈ vs, u.oneCell' = true)
    (hn : n + m ≤ maxLen) (hbytes : (n + m) * bytes ≤ 140737488355328) (hbase : base ≤ w.heap.size)
    (h : ∀ A' c' w', OwnC w' base e k A' (n + m) c' (cs ++ vs) → Below base w w' → wpList Try.prog ops Q rest (a.put o.dst (.slice A' (n + m) c')) w') : wpList Try.prog ops Q (o :: rest) a w := by
  obtain ⟨i0, hi, hz0, hz1, hz2⟩ := info_parts hinfo
  have hlt := fun k hk => (World.ownsRow.lt hown k hk).1
  cases S with
  | some ad =>
    have hcell : ∀ j u, vs[j]? = some u → w.cell? (ad.add j) = some u := by
      intro j u hj
      have hjl : j < vs.length := by
        rcases Nat.lt_or_ge j vs.length with h | h
        · exact h
        · rw [List.getElem?_eq_none h] at hj; cases hj
      have hm : 0 < m := by
        rcases Nat.eq_zero_or_pos m with h0 | h0
        · have := hr.len; rw [h0, Nat.zero_mul] at this; omega
        · exact h0
      obtain ⟨b, off, e2, _, hc⟩ := hr.at_ hm
      injection e2 with e2
      subst e2
      have e3 : (⟨b, off, none⟩ : Addr).add j = ⟨b, off + j, none⟩ := by unfold Addr.add; split <;> simp_all
      rw [e3, hc j (by have := hr.len; omega)]
      exact hj
    refine wpList_append_own w hgd s x t ho base e i0 z k bytes ht hi hz0 hz1 hz2 hz hk _ n _ hs hown ad m d vs hx hr.len hcell h1 hn hbytes hbase ?_
    intro v' w' h2 h3 h4
    have hb' : Below base w w' := (Below.refl _ _).grown h3 hbase hlt
    rcases h2.2 with ⟨e, e2⟩ | ⟨g, cap, cur, e, _⟩
    · subst e
      have e0 : n + m = 0 := e2
      rw [e0] at h2
      have := h none 0 w' (by rw [e0]; exact h2) hb'
      rw [e0] at this
      exact this
    · subst e
      exact h _ _ _ h2 hb'
  | none =>
    obtain ⟨rfl, rfl⟩ := hr.none_ rfl
    obtain rfl : vs = [] := List.eq_nil_of_length_eq_zero (by have := hr.len; omega)
    refine wpList_plain hgd fun K hK' => ?_
    have hrun := run_append_owned_none (P := Try.prog) w base t o.type e i0 k ht hi _ n _ hown
    unfold Oper.wp
    simp [execOp, ho, resolve, invoke, builtin, hs, hx, hrun, Result.andThen]
    exact hK' _ _ (by simpa using h A c w (by simpa using hown) (Below.refl _ _))

theorem pol_info : (Try.prog.info? 52).map (fun i => (i.zero, i.size, i.bytes)) = some (some (.agg #[.int .u8 0, .int .i64 0, .int .i64 0, .int .i64 0]), 4, 32) := by kernel_rfl
theorem FP_one (l : List PolM) : ∀ u ∈ FP l, u.oneCell' = true := by
  intro u hu
  obtain ⟨p, _, hp⟩ := List.mem_flatMap.1 hu
  simp only [PolM.cells, List.mem_cons, List.not_mem_nil, or_false] at hp
  rcases hp with rfl | rfl | rfl | rfl <;> rfl
set_option maxHeartbeats 1600000 in
theorem clone16_any (w : World) (b off n c : Nat) (l : List PolM) (h : ArgC w w.heap.size 4 (some ⟨b, off, none⟩) n c (FP l)) (h32 : n ≤ 32) :
    Calls Try.prog 32 #[.slice (some ⟨b, off, none⟩) n c] w fun e w' => ∃ A' c', e = .returned (.slice A' n c') ∧ ArgC w' w'.heap.size 4 A' n c' (FP l) ∧ Below w.heap.size w w' := by
  have HARG := Lib.hid (h.below (below_a1 w (.cells #[] 52)))
  have HOWN := Lib.hid (OwnC.lit0 w 52 4)
  have heq : ∀ W : World, (binOp .eql 22 (.slice (some ⟨b, off, none⟩) n c) (.slice none 0 0)).run Try.prog W = .ok (.bool false) W := fun _ => rfl
  clear h
  go_enter Try.func32, Try.ntmps32
  go_wp2_with (refine wpList_append_rows rfl (.tmp 5) (.tmp 6) 22 rfl w.heap.size 52 _ 4 32 Try.underlying22 pol_info rfl (by omega) (some ⟨w.heap.size, 0, none⟩) 0 0 [] rfl HOWN.out w.heap.size (some ⟨b, off, none⟩) n c (FP l) rfl HARG.out (FP_one l) (by unfold maxLen; omega) (by omega) (by simp) ?_)
  intro A' c' w' hown hb
  have HR := Lib.hid hown.arg
  have HB := Lib.hid ((below_a1 w (.cells #[] 52)).trans hb)
  clear hb hown
  go_wp2
  go_ret
  exact ⟨A', c', rfl, HR.out, HB.out⟩

set_option maxHeartbeats 1600000 in
theorem bnew_any (w : World) (b off n c room : Nat) (l : List PolM) (h : ArgC w w.heap.size 4 (some ⟨b, off, none⟩) n c (FP l)) (h32 : n ≤ 32) (hr : 1 ≤ room ∧ room ≤ 4096) (hp : l.all polB = true) :
    Calls Try.prog 15 #[.slice (some ⟨b, off, none⟩) n c, .int .i64 (room : Nat)] w fun e w' => ∃ xb A' c' mb, e = .returned (.tuple #[.pointer (some ⟨xb, 0, none⟩), .int .i64 0]) ∧ BkX w' xb A' n c' l room mb 0 (fun _ => none) ∧ w.heap.size ≤ xb ∧ w.heap.size ≤ mb ∧ Below w.heap.size w w' := by
  have hln : l.length = n := by have := h.len; rw [FP_len] at this; omega
  have hpv : polsV l = 0 := by unfold polsV; rw [if_neg (by omega), if_pos hp]
  have HPo := Lib.hid (pols_any w w.heap.size (some ⟨b, off, none⟩) n c l h (Nat.le_refl _) (by omega))
  rw [hpv] at HPo
  have HCl := Lib.hid (fun W (hW : Below w.heap.size w W) => clone16_any W b off n c l ((h.below hW).more hW.size) h32)
  have HX := Lib.hid (And.intro hln (And.intro hr hp))
  have r1 : decide ((room : Int) < 1) = false := decide_eq_false (by omega)
  have r2 : decide (4096 < (room : Int)) = false := decide_eq_false (by omega)
  have hmm := @run_makeMap Try.prog
  clear h hln hpv hp hr
  go_enter Try.func15, Try.ntmps15
  go_wp2_with fail
  with_reducible refine (HPo.out).mono ?_
  rintro e w1 ⟨rfl, hb⟩
  have HB1 := Lib.hid hb
  clear hb
  go_wp2_with fail
  with_reducible refine (HCl.out _ HB1.out).mono ?_
  rintro e w2 ⟨A', c', rfl, hA, hb⟩
  have HB2 := Lib.hid (HB1.out.trans (hb.mono HB1.out.size))
  have HA := Lib.hid hA
  clear hb hA
  go_wp2
  have hbl := BlkL.new (w2.alloc (.map #[] 0)) [.slice A' n c', .int .i64 (room : Nat), .map (some w2.heap.size)] 71
  have hfr : Below w2.heap.size w2 ((w2.alloc (.map #[] 0)).alloc (.cells #[.slice A' n c', .int .i64 (room : Nat), .map (some w2.heap.size)] 71)) := below_a2 _ _ _
  have hom := (World.ownsMap_made w2 Try.prog 9 RV).alloc (.cells #[.slice A' n c', .int .i64 (room : Nat), .map (some w2.heap.size)] 71)
  have hbx : Below w.heap.size w ((w2.alloc (.map #[] 0)).alloc (.cells #[.slice A' n c', .int .i64 (room : Nat), .map (some w2.heap.size)] 71)) := HB2.out.trans (hfr.mono HB2.out.size)
  have hAx := (HA.out.below hfr).more hfr.size
  have hsx := HB2.out.size
  go_ret2
  refine ⟨(w2.alloc (.map #[] 0)).heap.size, A', c', w2.heap.size, by simp, ⟨⟨hbl, hAx, HX.out.2.2, by rw [HX.out.1]; exact h32, HX.out.2.1, ⟨.map [], hom, Nat.le_refl _, ⟨fun z _ _ => rfl, fun z c hz => by cases hz⟩⟩, fun z c hz => by cases hz⟩, ⟨.map [], hom, rfl⟩⟩, by simp; omega, hsx, hbx⟩
end Go.Proofs.Ytnkecjjfbllgdaa


/- The two awake: the document's first examples. -/
namespace Go.Proofs.Ytnkecjjfbllgdaa
open Go.RowKit Go.Maps
set_option maxRecDepth 100000
set_option linter.unusedVariables false

abbrev blkB (d : Nat) : Obj := .cells #[.int .u8 (d : Nat)] 5 (1, 2)
theorem litB (w : World) (d : Nat) (hd : d < 256) : Arg (w.alloc (blkB d)) (w.alloc (blkB d)).heap.size (some ⟨w.heap.size, 0, none⟩) 1 1 [d] := by
  refine ⟨rfl, Nat.le_refl _, by unfold maxLen; omega, by simpa using hd, by simp, fun _ => ⟨w.heap.size, 0, rfl, by simp, fun k hk => ?_⟩⟩
  obtain rfl : k = 0 := by omega
  unfold World.cell? World.alloc
  simp
theorem kcvA (w : World) (o : Obj) (C : Array Value) (n c : Nat) : (convert 23 23 (.slice (some ⟨w.heap.size + 1, 0, none⟩) n c)).run Try.prog ((w.alloc o).alloc (.cells C 5)) = .ok (.slice (some ⟨w.heap.size + 1, 0, none⟩) n c) ((w.alloc o).alloc (.cells C 5 (C.size, C.size + 1))) := by
  have h := Lib.run_convert_bytes_const (P := Try.prog) (w.alloc o) 23 5 C n c Try.underlying23 Try.underlying5
  rw [World.size_alloc] at h
  exact h
abbrev polA : PolM := ⟨1, 10, 20, 0⟩
abbrev polS : PolM := ⟨2, 0, 0, 2⟩
abbrev tabL : List PolM := [polA, polS]
theorem tab_ok : tabL.all polB = true := by decide
theorem eqRep (a b c d e : Int) (g : Bool) (w : World) : (binOp .eql 42 (.agg #[.int .i64 a, .bool g, .int .i64 b, .int .i64 c, .int .i64 d, .int .i64 e]) (.agg #[.int .i64 a, .bool g, .int .i64 b, .int .i64 c, .int .i64 d, .int .i64 e])).run Try.prog w = .ok (.bool true) w := by simp [go_sem, Result.andThen]
theorem eqBk (x : Nat) (w : World) : (binOp .eql 34 (.pointer (some ⟨x, 0, none⟩)) (.pointer none)).run Try.prog w = .ok (.bool false) w := rfl
theorem aw1 : cellM polA (getB (fun _ => none) [0, 97]) 1 1 100 0 = (⟨0, true, 2, 0, 0, 100⟩, ⟨110, []⟩, true) := by kernel_rfl
abbrev M0 : BkMap := fun _ => none
abbrev M1 : BkMap := putB M0 [0, 97] ⟨110, []⟩
abbrev M2 : BkMap := putB M1 [1, 107] ⟨0, [5]⟩
theorem aw2 : cellM polS (getB M1 [1, 107]) 2 0 0 5 = (⟨0, true, 1, 0, 5, 0⟩, ⟨0, [5]⟩, true) := by kernel_rfl
theorem aw3 : cellM polS (getB M2 [1, 107]) 3 6 0 0 = (⟨11, false, 0, 0, 0, 0⟩, ⟨0, []⟩, false) := by kernel_rfl
theorem awz1 : sizeB M0 [0, 97] (⟨0, true, 2, 0, 0, 100⟩, ⟨110, []⟩, true) 0 = 1 := by kernel_rfl
theorem awz2 : sizeB M1 [1, 107] (⟨0, true, 1, 0, 5, 0⟩, ⟨0, [5]⟩, true) 1 = 2 := by kernel_rfl
theorem awz3 : sizeB M2 [1, 107] (⟨11, false, 0, 0, 0, 0⟩, ⟨0, []⟩, false) 2 = 2 := by kernel_rfl
theorem awa3 : afterB M2 [1, 107] (⟨11, false, 0, 0, 0, 0⟩, ⟨0, []⟩, false) = M2 := rfl
set_option maxHeartbeats 6400000 in
theorem awake16_any (w : World) : Calls Try.prog 10 #[] w (ValEnd w (.bool true)) := by
  have kcv := fun (w : World) (C : Array Value) (n c : Nat) => Lib.run_convert_bytes_const (P := Try.prog) w 23 5 C n c Try.underlying23 Try.underlying5
  have kca := kcvA
  have heq := eqRep
  have hek := eqBk
  have hta : ArgC (w.alloc (.cells (FP tabL).toArray 52)) (w.alloc (.cells (FP tabL).toArray 52)).heap.size 4 (some ⟨w.heap.size, 0, none⟩) 2 2 (FP tabL) := by
    have h := World.ownsRow_lit (base := w.heap.size) (e := 52) (size := 4) w (FP tabL).toArray 2 (Nat.le_refl _) (by unfold maxLen; omega) (by rfl)
    exact (show OwnC _ w.heap.size 52 4 (some ⟨w.heap.size, 0, none⟩) 2 2 (FP tabL) from by simpa [OwnC] using h).arg
  have HT := Lib.hid (table_any w)
  have HN := Lib.hid (bnew_any _ w.heap.size 0 2 2 2 tabL hta (by omega) (by omega) tab_ok)
  clear hta
  go_enter Try.func10, Try.ntmps10
  go_wp2_with fail
  with_reducible refine HT.out.mono ?_
  rintro e w0 ⟨rfl, rfl⟩
  go_wp2_with fail
  refine HN.out.mono ?_
  rintro e w1 ⟨xb, A', c', mb, rfl, hx, h1, h2, hb⟩
  have HB1 := Lib.hid ((below_a1 w (.cells (FP tabL).toArray 52)).trans (hb.mono (by simp)))
  have hd := book_do (w1.alloc (blkB 97)) xb 2 c' 2 mb 0 1 0 1 1 100 A' (some ⟨w1.heap.size, 0, none⟩) tabL M0 1 0 [97] (hx.below (below_a1 _ _)) (by omega) (by decide) (by decide) (litB w1 97 (by omega)) (by omega) (fun _ => by decide) (by omega) (fun e => by omega) (by omega) (.inr (by omega))
  rw [show tabL.getD 0 noPol = polA from rfl, aw1, awz1] at hd
  have HD := Lib.hid (show Calls Try.prog 18 #[.pointer (some ⟨xb, 0, none⟩), .agg #[.int .u8 1, .int .i64 0, .slice (some ⟨w1.heap.size, 0, none⟩) 1 1, .int .i64 1], .int .i64 100, .int .i64 0] (w1.alloc (blkB 97)) (fun e w' => e = .returned (.agg #[.int .i64 0, .bool true, .int .i64 2, .int .i64 0, .int .i64 0, .int .i64 100]) ∧ BkX w' xb A' 2 c' tabL 2 mb 1 M1 ∧ Off [mb] (w1.alloc (blkB 97)) w') from hd)
  have hmw : w.heap.size < mb := by simp at h2; omega
  have HM := Lib.hid hmw
  clear hb hd hx h1 h2 HN HT hmw
  go_wp2_with fail
  refine HD.out.mono ?_
  rintro e w2 ⟨rfl, hx, hof⟩
  have HB2 := Lib.hid ((HB1.out.alloc HB1.out.size (blkB 97)).trans ((hof.below (B := w.heap.size) (by have := HB1.out.size; simp; omega) (by have := HM.out; simp; omega))))
  have hd := book_do ((w2.alloc (.cells #[.int .i64 0, .bool true, .int .i64 2, .int .i64 0, .int .i64 0, .int .i64 100] 42)).alloc (blkB 107)) xb 2 c' 2 mb 1 2 1 1 1 0 A' (some ⟨w2.heap.size + 1, 0, none⟩) tabL M1 0 5 [107] (hx.below (below_a2 _ _ _)) (by omega) (by decide) (by decide) (by have := litB (w2.alloc (.cells #[.int .i64 0, .bool true, .int .i64 2, .int .i64 0, .int .i64 0, .int .i64 100] 42)) 107 (by omega); rw [World.size_alloc w2] at this; exact this) (by omega) (fun e => by omega) (by omega) (fun _ => by omega) (by omega) (.inr (by omega))
  rw [show tabL.getD 1 noPol = polS from rfl, aw2, awz2] at hd
  have HD := Lib.hid (show Calls Try.prog 18 #[.pointer (some ⟨xb, 0, none⟩), .agg #[.int .u8 2, .int .i64 1, .slice (some ⟨w2.heap.size + 1, 0, none⟩) 1 1, .int .i64 0], .int .i64 0, .int .i64 5] ((w2.alloc (.cells #[.int .i64 0, .bool true, .int .i64 2, .int .i64 0, .int .i64 0, .int .i64 100] 42)).alloc (blkB 107)) (fun e w' => e = .returned (.agg #[.int .i64 0, .bool true, .int .i64 1, .int .i64 0, .int .i64 5, .int .i64 0]) ∧ BkX w' xb A' 2 c' tabL 2 mb 2 M2 ∧ Off [mb] ((w2.alloc (.cells #[.int .i64 0, .bool true, .int .i64 2, .int .i64 0, .int .i64 0, .int .i64 100] 42)).alloc (blkB 107)) w') from hd)
  clear hof hd HB1
  go_wp2_with fail
  refine HD.out.mono ?_
  clear HD
  rintro e w3 ⟨rfl, hx3, hof⟩
  have r1 := ((BlkL.new w2 [.int .i64 0, .bool true, .int .i64 2, .int .i64 0, .int .i64 0, .int .i64 100] 42).alloc (blkB 107)).off hof (by have := hx.lt; simp; omega)
  have hs2 := (below_a2 w2 (.cells #[.int .i64 0, .bool true, .int .i64 2, .int .i64 0, .int .i64 0, .int .i64 100] 42) (blkB 107)).size
  have HB3 := Lib.hid ((HB2.out.trans ((below_a2 w2 (.cells #[.int .i64 0, .bool true, .int .i64 2, .int .i64 0, .int .i64 0, .int .i64 100] 42) (blkB 107)).mono HB2.out.size)).trans (hof.below (B := w.heap.size) (Nat.le_trans HB2.out.size hs2) (by have := HM.out; simp; omega)))
  have hd := book_do ((w3.alloc (.cells #[.int .i64 0, .bool true, .int .i64 1, .int .i64 0, .int .i64 5, .int .i64 0] 42)).alloc (blkB 107)) xb 2 c' 2 mb 2 3 1 1 1 0 A' (some ⟨w3.heap.size + 1, 0, none⟩) tabL M2 6 0 [107] (hx3.below (below_a2 _ _ _)) (by omega) (by decide) (by decide) (by have := litB (w3.alloc (.cells #[.int .i64 0, .bool true, .int .i64 1, .int .i64 0, .int .i64 5, .int .i64 0] 42)) 107 (by omega); rw [World.size_alloc w3] at this; exact this) (by omega) (fun e => by omega) (by omega) (fun e => by omega) (by omega) (.inl rfl)
  rw [show tabL.getD 1 noPol = polS from rfl, aw3, awa3, awz3] at hd
  have HD := Lib.hid (show Calls Try.prog 18 #[.pointer (some ⟨xb, 0, none⟩), .agg #[.int .u8 3, .int .i64 1, .slice (some ⟨w3.heap.size + 1, 0, none⟩) 1 1, .int .i64 6], .int .i64 0, .int .i64 0] ((w3.alloc (.cells #[.int .i64 0, .bool true, .int .i64 1, .int .i64 0, .int .i64 5, .int .i64 0] 42)).alloc (blkB 107)) (fun e w' => e = .returned (.agg #[.int .i64 11, .bool false, .int .i64 0, .int .i64 0, .int .i64 0, .int .i64 0]) ∧ BkX w' xb A' 2 c' tabL 2 mb 2 M2 ∧ Off [mb] ((w3.alloc (.cells #[.int .i64 0, .bool true, .int .i64 1, .int .i64 0, .int .i64 5, .int .i64 0] 42)).alloc (blkB 107)) w') from hd)
  have HR1 := Lib.hid r1
  have HL2 := Lib.hid hx.lt
  clear hof hd HB2 hs2 r1
  go_wp2_with fail
  refine HD.out.mono ?_
  clear HD
  rintro e w4 ⟨rfl, hx4, hof⟩
  have r1 := ((HR1.out.alloc (.cells #[.int .i64 0, .bool true, .int .i64 1, .int .i64 0, .int .i64 5, .int .i64 0] 42)).alloc (blkB 107)).off hof (by have := HL2.out; simp; omega)
  have r2 := ((BlkL.new w3 [.int .i64 0, .bool true, .int .i64 1, .int .i64 0, .int .i64 5, .int .i64 0] 42).alloc (blkB 107)).off hof (by have := hx3.lt; simp; omega)
  have hs3 := (below_a2 w3 (.cells #[.int .i64 0, .bool true, .int .i64 1, .int .i64 0, .int .i64 5, .int .i64 0] 42) (blkB 107)).size
  have HB4 := Lib.hid ((HB3.out.trans ((below_a2 w3 (.cells #[.int .i64 0, .bool true, .int .i64 1, .int .i64 0, .int .i64 5, .int .i64 0] 42) (blkB 107)).mono HB3.out.size)).trans (hof.below (B := w.heap.size) (Nat.le_trans HB3.out.size hs3) (by have := HM.out; simp; omega)))
  have hx5 := hx4.below (below_a1 w4 (.cells #[.int .i64 11, .bool false, .int .i64 0, .int .i64 0, .int .i64 0, .int .i64 0] 42))
  have hln := hx5.e
  obtain ⟨D, hd1, hd2⟩ := hln
  have HLn := Lib.hid (blen_any (w4.alloc (.cells #[.int .i64 11, .bool false, .int .i64 0, .int .i64 0, .int .i64 0, .int .i64 0] 42)) xb mb 2 (hx5.r.blk.cell 2 _ rfl) (fun ty => by have := hd1.len Try.underlying69 ty; rw [hd2] at this; exact this))
  have r1c0 := r1.cell 0 _ rfl
  have r1c1 := r1.cell 1 _ rfl
  have r1c2 := r1.cell 2 _ rfl
  have r1c3 := r1.cell 3 _ rfl
  have r1c4 := r1.cell 4 _ rfl
  have r1c5 := r1.cell 5 _ rfl
  have r1l := r1.lt
  have r2c0 := r2.cell 0 _ rfl
  have r2c1 := r2.cell 1 _ rfl
  have r2c2 := r2.cell 2 _ rfl
  have r2c3 := r2.cell 3 _ rfl
  have r2c4 := r2.cell 4 _ rfl
  have r2c5 := r2.cell 5 _ rfl
  have r2l := r2.lt
  clear hx hx3 hx4 hx5 hd1 hd2 hof hs3 r1 r2 HR1 HL2 HB3
  go_wp2_with fail
  refine HLn.out.mono ?_
  rintro e w5 ⟨rfl, rfl⟩
  go_wp2
  go_ret
  exact ⟨rfl, HB4.out.alloc HB4.out.size _⟩
end Go.Proofs.Ytnkecjjfbllgdaa


/- A script of asks that comes in, opened. -/
namespace Go.Proofs.Ytnkecjjfbllgdaa
open Go.ChangeShapes Go.WideShapes Go.ChangeAt Go.RowKit Go.Deep
set_option maxRecDepth 100000
set_option linter.unusedVariables false

structure AskV where
  op : Nat
  q : Int
  A : Option Addr
  n : Nat
  c : Nat
  zs : List Nat
  N : Int
  now : Int
  s : Int
abbrev noAsk : AskV := ⟨0, 0, none, 0, 0, [], 0, 0, 0⟩
def AskV.cells (e : AskV) : List Value := [.int .u8 (e.op : Nat), .int .i64 e.q, .slice e.A e.n e.c, .int .i64 e.N, .int .i64 e.now, .int .i64 e.s]
def FA (l : List AskV) : List Value := l.flatMap AskV.cells
theorem FA_len (l : List AskV) : (FA l).length = l.length * 6 := by
  induction l with
  | nil => rfl
  | cons a l ih => simp [FA, AskV.cells] at *; omega
theorem FA_at (l : List AskV) (i j : Nat) (h : i < l.length) (hj : j < 6) : (FA l)[i * 6 + j]? = (l.getD i noAsk).cells[j]? := by
  induction l generalizing i with
  | nil => simp at h
  | cons a l ih =>
    cases i with
    | zero =>
      rw [Nat.zero_mul, Nat.zero_add]
      show (a.cells ++ FA l)[j]? = a.cells[j]?
      rw [List.getElem?_append_left (by simp [AskV.cells]; omega)]
    | succ i =>
      have := ih i (by simpa using h)
      show (a.cells ++ FA l)[(i + 1) * 6 + j]? = _
      rw [List.getElem?_append_right (by simp [AskV.cells]; omega)]
      have e : (i + 1) * 6 + j - a.cells.length = i * 6 + j := by simp [AskV.cells]; omega
      rw [e, this]; rfl
structure AskV.ok (e : AskV) : Prop where
  o1 : e.op ≤ 255
  N1 : e.N ≤ 9223372036854775807
  w1 : e.now ≤ 9223372036854775807
  s1 : e.s ≤ 9223372036854775807
  kc : e.c ≤ 140737488351232
/-- A script that is read: below block B. -/
structure AskA (w : World) (B : Nat) (A : Option Addr) (n c : Nat) (l : List AskV) : Prop where
  arg : ArgC w B 6 A n c (FA l)
  key : ∀ e ∈ l, Arg w B e.A e.n e.c e.zs ∧ e.ok
section
variable {w w' : World} {B B' n c : Nat} {A : Option Addr} {l : List AskV}
theorem AskA.below (h : AskA w B A n c l) (hb : Below B w w') : AskA w' B A n c l := ⟨h.arg.below hb, fun e he => ⟨(h.key e he).1.below hb, (h.key e he).2⟩⟩
theorem AskA.len (h : AskA w B A n c l) : l.length = n := by have := h.arg.len; rw [FA_len] at this; omega
theorem ask_mem {l : List AskV} {i : Nat} (h : i < l.length) : l.getD i noAsk ∈ l := by
  rw [List.getD_eq_getElem?_getD, List.getElem?_eq_getElem h]; exact List.getElem_mem h
end
theorem ask_cells : Try.prog.cellsOf 39 = 6 := by kernel_rfl
theorem ask_bytes : Try.prog.bytesOf 39 = 64 := by kernel_rfl
theorem s_call : Try.prog.cellsOf 25 = 4 := by kernel_rfl
theorem spk_u8 : Try.prog.cellsOf 5 = 1 := by kernel_rfl
theorem spk_b8 : Try.prog.bytesOf 5 = 1 := by kernel_rfl
theorem spk_int : Try.prog.cellsOf 3 = 1 := by kernel_rfl
theorem spk_i64 : Try.prog.cellsOf 2 = 1 := by kernel_rfl
theorem spk_sl : Try.prog.cellsOf 23 = 1 := by kernel_rfl
theorem ask_addr (b off k : Nat) : (⟨b, off, none⟩ : Addr).add k = ⟨b, off + k, none⟩ := by unfold Addr.add; split <;> simp_all
/-- A slice of bytes that came in, by its cells; what it weighs. -/
theorem key_open {H : Type} {enc : TypeId × Value → H} {W : World} {n : Nat} {cs : List Value} {x : DataW H × List MemPlace} (h : DataW.trod enc Try.prog W 0 (fun _ => true) true n 23 cs = some x) (hw : ∀ m ∈ x.1.weights Try.prog 23, m ≤ reachBytes) :
    ∃ A len cap zs, cs = [.slice A len cap] ∧ Arg W W.heap.size A len cap zs ∧ cap ≤ 140737488351232 := by
  have hin : ∃ A len cap, cs = [.slice A len cap] := by
    rcases open_ints Try.underlying23 Try.underlying5 spk_u8 h with ⟨hcs, _⟩ | ⟨a, l, c, zs, hcs, _⟩
    · exact ⟨none, 0, 0, hcs⟩
    · exact ⟨some a, l, c, hcs⟩
  obtain ⟨A, len, cap, rfl⟩ := hin
  obtain ⟨zs, ha, hz⟩ := Arg.of_trod (d := x.1) (p := x.2) Try.underlying23 Try.underlying5 spk_u8 ⟨n, h⟩
  refine ⟨A, len, cap, zs, rfl, ha, ?_⟩
  rcases hz with hz | ⟨el, sp, e, hl⟩
  · omega
  · rw [e] at hw
    have := hw ((el.length + sp.length) * Try.prog.bytesOf 5) (by simp [DataW.weights, Try.underlying23])
    rw [spk_b8] at this
    simp only [reachBytes] at this
    omega
theorem ask_one {H : Type} {enc : TypeId × Value → H} {W : World} {n : Nat} {cs : List Value} {x : DataW H × List MemPlace} (hlen : cs.length = 6)
    (h : DataW.trod enc Try.prog W 0 (fun _ => true) true n 39 cs = some x) (hw : ∀ m ∈ x.1.weights Try.prog 39, m ≤ reachBytes) : ∃ o : AskV, (Arg W W.heap.size o.A o.n o.c o.zs ∧ o.ok) ∧ cs = o.cells := by
  obtain ⟨xs, k, hk, hxy, _, hxl, hf⟩ := DataW.trod_struct Try.underlying39 h
  match xs, hxl, cs, hlen with
  | [x0, x1, x2], _, [v0, v1, v2, v3, v4, v5], _ =>
    have h0 : DataW.trod enc Try.prog W 0 (fun _ => true) true k 25 [v0, v1, v2, v3] = some x0 := by simpa [s_call] using hf 0 _ rfl
    have h1 : DataW.trod enc Try.prog W 0 (fun _ => true) true k 2 [v4] = some x1 := by simpa [spk_i64] using hf 1 _ rfl
    have h2 : DataW.trod enc Try.prog W 0 (fun _ => true) true k 2 [v5] = some x2 := by simpa [spk_i64] using hf 2 _ rfl
    have hx1 : x.1 = .agg [x0.1, x1.1, x2.1] := by rw [hxy]; rfl
    rw [hx1] at hw
    have hwc : ∀ m ∈ x0.1.weights Try.prog 25, m ≤ reachBytes := fun m hm => hw m (by
      simp only [DataW.weights, Try.underlying39]
      exact DataW.weights_mem_each (j := 0) rfl rfl m hm)
    obtain ⟨z4, e4, _, w4⟩ := DataW.trod_int Try.underlying2 h1
    obtain ⟨z5, e5, _, w5⟩ := DataW.trod_int Try.underlying2 h2
    obtain ⟨ys, k', hk', hyy, _, hyl, hg⟩ := DataW.trod_struct Try.underlying25 h0
    match ys, hyl with
    | [y0, y1, y2, y3], _ =>
      have g0 : DataW.trod enc Try.prog W 0 (fun _ => true) true k' 5 [v0] = some y0 := by simpa [spk_u8] using hg 0 _ rfl
      have g1 : DataW.trod enc Try.prog W 0 (fun _ => true) true k' 3 [v1] = some y1 := by simpa [spk_int] using hg 1 _ rfl
      have g2 : DataW.trod enc Try.prog W 0 (fun _ => true) true k' 23 [v2] = some y2 := by simpa [spk_sl] using hg 2 _ rfl
      have g3 : DataW.trod enc Try.prog W 0 (fun _ => true) true k' 2 [v3] = some y3 := by simpa [spk_i64] using hg 3 _ rfl
      obtain ⟨z0, e0, _, w0⟩ := DataW.trod_int Try.underlying5 g0
      obtain ⟨z1, e1, _, _⟩ := DataW.trod_int Try.underlying3 g1
      obtain ⟨z3, e3, _, w3⟩ := DataW.trod_int Try.underlying2 g3
      have hy1 : x0.1 = .agg [y0.1, y1.1, y2.1, y3.1] := by rw [hyy]; rfl
      rw [hy1] at hwc
      obtain ⟨A, len, cap, zs, e2, ha, hcap⟩ := key_open g2 (fun m hm => hwc m (by
        simp only [DataW.weights, Try.underlying25]
        exact DataW.weights_mem_each (j := 2) rfl rfl m hm))
      simp only [List.cons.injEq, and_true] at e0 e1 e2 e3 e4 e5
      have b0 := bounds_u8 w0
      have b3 := bounds_i64 w3
      have b4 := bounds_i64 w4
      have b5 := bounds_i64 w5
      have e6 : ((z0.toNat : Nat) : Int) = z0 := Int.toNat_of_nonneg b0.1
      refine ⟨⟨z0.toNat, z1, A, len, cap, zs, z3, z4, z5⟩, ⟨ha, ⟨by simp only; omega, b3.2, b4.2, b5.2, hcap⟩⟩, ?_⟩
      rw [e0, e1, e2, e3, e4, e5]
      simp only [AskV.cells]
      rw [e6]
instance : Inhabited AskV := ⟨noAsk⟩
theorem weightsAll_mem {H : Type} {P : Program} {e : TypeId} : ∀ {ds : List (DataW H)} {d : DataW H}, d ∈ ds → ∀ m ∈ d.weights P e, m ∈ DataW.weightsAll P e ds
  | [], d, hd, m, hm => by simp at hd
  | a :: r, d, hd, m, hm => by
    simp only [DataW.weightsAll, List.mem_append]
    rcases List.mem_cons.1 hd with rfl | hd
    · exact .inl hm
    · exact .inr (weightsAll_mem hd m hm)
theorem asks16_open {H : Type} {enc : TypeId × Value → H} {W : World} {a : Option Addr} {len cap : Nat} {d : DataW H} {p : List MemPlace}
    (h : DataW.Trod enc Try.prog W 0 (fun _ => true) true 33 (.slice a len cap) d p) (hw : ∀ m ∈ d.weights Try.prog 33, m ≤ reachBytes) :
    ∃ l, AskA W W.heap.size a len cap l ∧ (cap = 0 ∨ ∃ elems spare, d = .slice elems spare ∧ elems.length + spare.length = cap) := by
  obtain ⟨fuel, hf⟩ := h
  rcases open_slice Try.underlying33 hf with ⟨hcs, hx0⟩ | ⟨x, l, c, m, n, D, Pl, hcs, _, hl, hm, hmm, hx, hcell⟩
  · simp [Value.cells] at hcs
    obtain ⟨rfl, rfl, rfl⟩ := hcs
    exact ⟨[], ⟨⟨rfl, Nat.le_refl _, by unfold maxLen; omega, fun _ => ⟨rfl, rfl⟩, fun h => absurd h (by omega)⟩, (fun x hx => by cases hx)⟩, .inl rfl⟩
  · simp [Value.cells] at hcs
    obtain ⟨rfl, rfl, rfl⟩ := hcs
    have hmc : m = cap := by simpa using hmm
    subst hmc
    have hd : d = .slice ((List.range len).map D) ((List.range (m - len)).map fun j => D (len + j)) := congrArg Prod.fst hx
    have hwD : ∀ i, i < len → ∀ q ∈ (D i).weights Try.prog 39, q ≤ reachBytes := by
      intro i hi q hq
      refine hw q ?_
      rw [hd]
      simp only [DataW.weights, Try.underlying33, List.mem_cons, List.mem_append]
      exact .inr (.inl (weightsAll_mem (List.mem_map.2 ⟨i, by simpa using hi, rfl⟩) q hq))
    have each : ∀ i, i < len → ∃ o : AskV, (Arg W W.heap.size o.A o.n o.c o.zs ∧ o.ok) ∧ ∀ j, j < 6 → W.cell? ((x.add (i * 6)).add j) = o.cells[j]? := by
      intro i hi
      obtain ⟨cs', h1, h2⟩ := hcell i (by omega)
      rw [ask_cells] at h1
      obtain ⟨_, hlen, hc⟩ := World.cells?_some h1
      obtain ⟨o, ho, rfl⟩ := ask_one hlen h2 (hwD i hi)
      exact ⟨o, ho, fun j hj => hc j hj⟩
    obtain ⟨f, hfo⟩ := choose_lt each
    refine ⟨(List.range len).map f, ⟨⟨by rw [FA_len]; simp, hl, hm, (fun h => by cases h), fun hn => ?_⟩, fun y hy => ?_⟩, .inr ⟨_, _, hd, by simp; omega⟩⟩
    · have h0 : W.cell? ((x.add (0 * 6)).add 0) = some (.int .u8 ((f 0).op : Nat)) := (hfo 0 (by omega)).2 0 (by omega)
      obtain ⟨b, off, spot⟩ := x
      have hspot : spot = none := by simpa [Addr.add] using World.cell?_spot (w := W) h0
      subst hspot
      refine ⟨b, off, rfl, ?_, fun j hj => ?_⟩
      · exact World.block_lt_of_cell? W _ (by simpa [Addr.add] using h0)
      · have hi : j / 6 < len := by omega
        have hg := (hfo (j / 6) hi).2 (j % 6) (Nat.mod_lt _ (by omega))
        rw [ask_addr, ask_addr] at hg
        have e1 : off + j / 6 * 6 + j % 6 = off + j := by omega
        rw [e1] at hg
        have h2 := FA_at ((List.range len).map f) (j / 6) (j % 6) (by simpa using hi) (Nat.mod_lt _ (by omega))
        have e2 : j / 6 * 6 + j % 6 = j := by omega
        have e3 : ((List.range len).map f).getD (j / 6) noAsk = f (j / 6) := by simp [List.getD_eq_getElem?_getD, hi]
        rw [e2, e3] at h2
        rw [h2, hg]
    · obtain ⟨i, hi, rfl⟩ := List.mem_map.1 hy
      exact (hfo i (by simpa using hi)).1
end Go.Proofs.Ytnkecjjfbllgdaa


/- What the laws on books share. -/
namespace Go.Proofs.Ytnkecjjfbllgdaa
open Go.RowKit Go.Maps
set_option maxRecDepth 100000
set_option linter.unusedVariables false

theorem tab_arg (w : World) : ArgC (w.alloc (.cells (FP tabL).toArray 52)) (w.alloc (.cells (FP tabL).toArray 52)).heap.size 4 (some ⟨w.heap.size, 0, none⟩) 2 2 (FP tabL) := by
  have h := World.ownsRow_lit (base := w.heap.size) (e := 52) (size := 4) w (FP tabL).toArray 2 (Nat.le_refl _) (by unfold maxLen; omega) (by rfl)
  exact (show OwnC _ w.heap.size 52 4 (some ⟨w.heap.size, 0, none⟩) 2 2 (FP tabL) from by simpa [OwnC] using h).arg
theorem tab_new (w : World) : Calls Try.prog 15 #[.slice (some ⟨w.heap.size, 0, none⟩) 2 2, .int .i64 4096] (w.alloc (.cells (FP tabL).toArray 52))
    fun e w' => ∃ xb A' c' mb, e = .returned (.tuple #[.pointer (some ⟨xb, 0, none⟩), .int .i64 0]) ∧ BkX w' xb A' 2 c' tabL 4096 mb 0 (fun _ => none) ∧ w.heap.size ≤ mb ∧ Below w.heap.size w w' := by
  refine (bnew_any _ w.heap.size 0 2 2 4096 tabL (tab_arg w) (by omega) (by omega) tab_ok).mono ?_
  rintro e w' ⟨xb, A', c', mb, he, hx, h1, h2, hb⟩
  exact ⟨xb, A', c', mb, he, hx, by simp at h2; omega, (below_a1 w _).trans (hb.mono (by simp))⟩

theorem Arg.to2 {w : World} {B n c : Nat} {A : Option Addr} {zs : List Nat} (h : Arg w B A n c zs) (k : Nat) (hk : k ≤ n) : Arg w B A k c (zs.take k) := by
  refine ⟨by rw [List.length_take, h.len]; omega, by have := h.le; omega, h.cap, fun d hd => h.byte d (List.mem_of_mem_take hd), fun he => ?_, fun hn => ?_⟩
  · have := h.none_ he; omega
  · obtain ⟨b, off, e, hb, hc⟩ := h.at_ (by omega)
    refine ⟨b, off, e, hb, fun j hj => ?_⟩
    rw [hc j (by omega)]
    simp [List.getD_eq_getElem?_getD, hj]
theorem actM_lt (l : List PolM) (M : BkMap) (o p : Nat) (zs : List Nat) (N : Int) (now : Nat) (s : Int) (h5 : o < 5) :
    actM l M o p zs N now s = afterB M (p :: zs) (cellM (l.getD p noPol) (getB M (p :: zs)) o N now s) := by
  unfold actM
  rw [if_neg (by omega), if_neg (by omega)]
end Go.Proofs.Ytnkecjjfbllgdaa
