/- A version of a shard in memory; contracts: find's comparison, the search by halving, find. -/
import Derived.Test.YtpjgpiiibgogeaaShM
import Derived.Test.YtpjgpiiibgogeaaRow
import Derived.Test.YtpjgpiiibgogeaaOff
import Derived.IntWalk
namespace Go.Proofs.Ytpjgpiiibgogeaa
open Go.RowKit
set_option maxRecDepth 100000
set_option linter.unusedVariables false

/-- An entry as it lies: where its key lies, the key's bytes, the value. -/
structure KV where
  A : Option Addr
  n : Nat
  c : Nat
  zs : List Nat
  v : Int
abbrev noKV : KV := ⟨none, 0, 0, [], 0⟩
def KV.cells (e : KV) : List Value := [.slice e.A e.n e.c, .int .i64 e.v]
def KV.ent (e : KV) : Ent := (e.zs, e.v)
def KVs (l : List KV) : List Value := l.flatMap KV.cells
theorem KVs_len (l : List KV) : (KVs l).length = l.length * 2 := by
  induction l with
  | nil => rfl
  | cons a l ih => simp [KVs, KV.cells] at *; omega
theorem KVs_at (l : List KV) (i : Nat) (h : i < l.length) : (KVs l)[i * 2]? = some (.slice (l.getD i noKV).A (l.getD i noKV).n (l.getD i noKV).c) ∧ (KVs l)[i * 2 + 1]? = some (.int .i64 (l.getD i noKV).v) := by
  induction l generalizing i with
  | nil => simp at h
  | cons a l ih =>
    cases i with
    | zero => exact ⟨rfl, rfl⟩
    | succ i =>
      obtain ⟨t0, t1⟩ := ih i (by simpa using h)
      refine ⟨?_, ?_⟩
      · rw [show (i + 1) * 2 = i * 2 + 1 + 1 by omega]; exact t0
      · rw [show (i + 1) * 2 + 1 = i * 2 + 1 + 1 + 1 by omega]; exact t1
theorem KVs_append (l m : List KV) : KVs (l ++ m) = KVs l ++ KVs m := by simp [KVs]
theorem KVs_take (l : List KV) (k : Nat) : (KVs l).take (k * 2) = KVs (l.take k) := by
  induction l generalizing k with
  | nil => simp [KVs]
  | cons a l ih =>
    cases k with
    | zero => simp [KVs]
    | succ k =>
      rw [show (k + 1) * 2 = k * 2 + 1 + 1 by omega]
      have := ih k
      simp [KVs, KV.cells] at *; exact this
theorem KVs_drop (l : List KV) (k : Nat) : (KVs l).drop (k * 2) = KVs (l.drop k) := by
  induction l generalizing k with
  | nil => simp [KVs]
  | cons a l ih =>
    cases k with
    | zero => simp [KVs]
    | succ k =>
      rw [show (k + 1) * 2 = k * 2 + 1 + 1 by omega]
      have := ih k
      simp [KVs, KV.cells] at *; exact this
theorem KVs_one (l : List KV) : ∀ u ∈ KVs l, u.oneCell' = true := by
  intro u hu
  simp only [KVs, List.mem_flatMap, KV.cells] at hu
  obtain ⟨e, _, he⟩ := hu
  simp only [List.mem_cons, List.not_mem_nil, or_false] at he
  rcases he with rfl | rfl <;> rfl

/-- Outside the blocks S. -/
def Apt (S : List Nat) (A : Option Addr) (n : Nat) : Prop := 0 < n → ∀ a, A = some a → a.block ∉ S
theorem Apt.nil (S : List Nat) (n : Nat) : Apt S none n := by intro _ a h; cases h
theorem Apt.mk {S : List Nat} {b o n : Nat} (h : b ∉ S) : Apt S (some ⟨b, o, none⟩) n := by intro _ a e; cases e; exact h
theorem Apt.weak {S S' : List Nat} {A : Option Addr} {n : Nat} (h : Apt S' A n) (hs : ∀ x ∈ S, x ∈ S') : Apt S A n := fun hn a ha hm => h hn a ha (hs _ hm)
theorem Apt.new {w : World} {B n c r : Nat} {A : Option Addr} {zs : List Nat} {S : List Nat} (ha : Apt S A n) (h : Arg w B A n c zs) (hr : B ≤ r) : Apt (r :: S) A n := by
  intro hn a e hm
  obtain ⟨b, off, e2, hb, _⟩ := h.at_ hn
  rw [e2] at e; cases e
  rcases List.mem_cons.1 hm with h1 | h1
  · simp only at h1; omega
  · exact ha hn _ e2 h1
theorem Apt.newC {w : World} {B k n c r : Nat} {A : Option Addr} {cs : List Value} {S : List Nat} (ha : Apt S A n) (h : ArgC w B k A n c cs) (hr : B ≤ r) : Apt (r :: S) A n := by
  intro hn a e hm
  obtain ⟨b, off, e2, hb, _⟩ := h.at_ hn
  rw [e2] at e; cases e
  rcases List.mem_cons.1 hm with h1 | h1
  · simp only at h1; omega
  · exact ha hn _ e2 h1

/-- A version at .slice A n c, all of it below block B and outside the blocks S. -/
structure VerA (w : World) (B : Nat) (S : List Nat) (A : Option Addr) (n c : Nat) (es : List KV) : Prop where
  arg : ArgC w B 2 A n c (KVs es)
  apt : Apt S A n
  key : ∀ e ∈ es, Arg w B e.A e.n e.c e.zs ∧ Apt S e.A e.n ∧ e.n ≤ 256
section
variable {w w' : World} {B B' n c : Nat} {S S' : List Nat} {A : Option Addr} {es : List KV} {zs : List Nat}
theorem VerA.len (h : VerA w B S A n c es) : es.length = n := by have := h.arg.len; rw [KVs_len] at this; omega
theorem VerA.below (h : VerA w B S A n c es) (hb : Below B w w') : VerA w' B S A n c es :=
  ⟨h.arg.below hb, h.apt, fun e he => ⟨(h.key e he).1.below hb, (h.key e he).2⟩⟩
theorem VerA.more (h : VerA w B S A n c es) (hB : B ≤ B') : VerA w B' S A n c es :=
  ⟨h.arg.more hB, h.apt, fun e he => ⟨(h.key e he).1.more hB, (h.key e he).2⟩⟩
theorem ArgC.off {k : Nat} {cs : List Value} (h : ArgC w B k A n c cs) (hB : B ≤ w.heap.size) (hb : Off S w w') (ha : Apt S A n) : ArgC w' B k A n c cs :=
  ⟨h.len, h.le, h.cap, h.none_, fun hn => by
    obtain ⟨b, off, e, hB', hc⟩ := h.at_ hn
    exact ⟨b, off, e, hB', fun j hj => (hb.cell (p := ⟨b, off + j, none⟩) (by show b < _; omega) (show b ∉ S from ha hn _ e)).trans (hc j hj)⟩⟩
theorem Arg.off (h : Arg w B A n c zs) (hB : B ≤ w.heap.size) (hb : Off S w w') (ha : Apt S A n) : Arg w' B A n c zs :=
  ⟨h.len, h.le, h.cap, h.byte, h.none_, fun hn => by
    obtain ⟨b, off, e, hB', hc⟩ := h.at_ hn
    exact ⟨b, off, e, hB', fun j hj => (hb.cell (p := ⟨b, off + j, none⟩) (by show b < _; omega) (show b ∉ S from ha hn _ e)).trans (hc j hj)⟩⟩
theorem VerA.off (h : VerA w B S A n c es) (hB : B ≤ w.heap.size) (hb : Off S w w') : VerA w' B S A n c es :=
  ⟨h.arg.off hB hb h.apt, h.apt, fun e he => ⟨(h.key e he).1.off hB hb (h.key e he).2.1, (h.key e he).2⟩⟩
theorem VerA.weak (h : VerA w B S' A n c es) (hs : ∀ x ∈ S, x ∈ S') : VerA w B S A n c es :=
  ⟨h.arg, h.apt.weak hs, fun e he => ⟨(h.key e he).1, (h.key e he).2.1.weak hs, (h.key e he).2.2⟩⟩
theorem VerA.new {r : Nat} (h : VerA w B S A n c es) (hr : B ≤ r) : VerA w B (r :: S) A n c es :=
  ⟨h.arg, h.apt.newC h.arg hr, fun e he => ⟨(h.key e he).1, (h.key e he).2.1.new (h.key e he).1 hr, (h.key e he).2.2⟩⟩
theorem VerA.nil (w : World) (B : Nat) (S : List Nat) : VerA w B S none 0 0 [] :=
  ⟨⟨rfl, Nat.le_refl _, by unfold maxLen; omega, fun _ => ⟨rfl, rfl⟩, fun h => absurd h (by omega)⟩, Apt.nil _ _, by simp⟩
theorem VerA.at_ (h : VerA w B S A n c es) {i : Nat} (hi : i < n) : ∃ b off, A = some ⟨b, off, none⟩ ∧ b < B ∧
    w.cell? ⟨b, off + i * 2, none⟩ = some (.slice (es.getD i noKV).A (es.getD i noKV).n (es.getD i noKV).c) ∧ w.cell? ⟨b, off + i * 2 + 1, none⟩ = some (.int .i64 (es.getD i noKV).v) := by
  obtain ⟨b, off, e, hb, hc⟩ := h.arg.at_ (by omega)
  have hl := h.len
  have := KVs_at es i (by omega)
  exact ⟨b, off, e, hb, (hc (i * 2) (by omega)).trans this.1, (hc (i * 2 + 1) (by omega)).trans this.2⟩
theorem kv_mem {es : List KV} {i : Nat} (h : i < es.length) : es.getD i noKV ∈ es := by
  rw [List.getD_eq_getElem?_getD, List.getElem?_eq_getElem h]; exact List.getElem_mem h
theorem ent_at (es : List KV) (i : Nat) (h : i < es.length) : (es.map KV.ent).getD i noE = ((es.getD i noKV).zs, (es.getD i noKV).v) := by
  simp [List.getD_eq_getElem?_getD, h, KV.ent]
end

theorem find1_any (w : World) (B B' : Nat) (A A' : Option Addr) (n c m d : Nat) (v : Int) (xs ys : List Nat) (h : Arg w B A n c xs) (h' : Arg w B' A' m d ys) (hB : B ≤ w.heap.size) (hB' : B' ≤ w.heap.size) :
    Calls Try.prog 120 #[.agg #[.slice A n c, .int .i64 v], .slice A' m d] w fun e w' => e = .returned (.int .i64 (orderV xs ys)) ∧ Below w.heap.size w w' := by
  have hb : Below w.heap.size w (w.alloc (.cells #[.slice A n c, .int .i64 v] 99)) := (Below.refl _ w).alloc (Nat.le_refl _) _
  have HO := Lib.hid (order_any _ B B' A A' n c m d xs ys (h.below (hb.mono hB)) (h'.below (hb.mono hB')))
  have HB := Lib.hid hb
  clear h h' hb
  go_enter Try.func120, Try.ntmps120
  go_wp2_with fail
  with_reducible refine (HO.out).mono ?_
  rintro e w1 ⟨rfl, hw⟩
  subst hw
  go_wp2
  go_ret
  exact ⟨rfl, HB.out⟩

def SfInv (w : World) (l : List Ent) (k : List Nat) (n : Nat) (lo hi : Value) (wr : World) : Prop :=
  ∃ a b : Nat, lo = .int .i64 (a : Int) ∧ hi = .int .i64 (b : Int) ∧ a ≤ b ∧ b ≤ n ∧ (∀ i, i < a → orderV (l.getD i noE).1 k < 0) ∧ (∀ i, b ≤ i → i < n → 0 ≤ orderV (l.getD i noE).1 k) ∧ Below w.heap.size w wr
set_option maxHeartbeats 3200000 in
theorem bsf_any (w : World) (B B' : Nat) (S : List Nat) (A A' : Option Addr) (n c m d : Nat) (es : List KV) (ks : List Nat) (h : VerA w B S A n c es) (h' : Arg w B' A' m d ks) (ho : srtK (es.map KV.ent)) (hn : n ≤ 1000000) (hB : B ≤ w.heap.size) (hB' : B' ≤ w.heap.size) :
    Calls Try.prog 119 #[.slice A n c, .slice A' m d, .func (.func 120) #[] #[]] w
      fun e w' => e = .returned (.tuple #[.int .i64 ((plK (es.map KV.ent) ks : Nat) : Int), .bool (hasK (es.map KV.ent) ks)]) ∧ Below w.heap.size w w' := by
  have hl := h.len
  have hle := h.arg.le
  have hcap := h.arg.cap
  unfold maxLen at hcap
  have HS := Lib.hid (fun i j (hij : i < j) (hj : j < n) => srt_lt ho hij (by rw [List.length_map, hl]; exact hj))
  have HV := Lib.hid h
  have HK := Lib.hid h'
  have HE := Lib.hid (fun i (hi : i < n) => ent_at es i (by omega))
  have HL : Hid ((es.map KV.ent).length = n) := Lib.hid (by rw [List.length_map, hl])
  have HF := Lib.hid (fun (wr : World) (hb : Below w.heap.size w wr) i (hi : i < n) => find1_any wr B B' (es.getD i noKV).A A' (es.getD i noKV).n (es.getD i noKV).c m d (es.getD i noKV).v _ ks ((h.key _ (kv_mem (by omega))).1.below (hb.mono hB)) (h'.below (hb.mono hB')) (Nat.le_trans hB hb.size) (Nat.le_trans hB' hb.size))
  generalize es.map KV.ent = l at *
  clear h h' ho hl
  go_enter Try.func119, Try.ntmps119
  go_wp2
  go_loopw [9, 10] (fun lo hi wr => SfInv w l ks n lo hi wr) (fun lo hi _ => (intOf hi - intOf lo).toNat)
  case atStart => exact ⟨0, n, rfl, rfl, Nat.zero_le _, Nat.le_refl _, fun i hi => absurd hi (by omega), fun i hi hi2 => absurd hi (by omega), Below.refl _ _⟩
  case round =>
    obtain ⟨a, b, rfl, rfl, hab, hbn, h1, h2, hbw⟩ := hrel
    rcases Nat.lt_or_ge a b with hlt | hge
    · obtain ⟨q, hq⟩ : ∃ q, (a + b) / 2 = q := ⟨_, rfl⟩
      have q0 : decide ((a : Int) < (b : Int)) = true := decide_eq_true (by omega)
      obtain ⟨g, off, rfl, hgB, hc0, hc1⟩ := (HV.out.below (hbw.mono hB)).at_ (i := q) (by omega)
      have hmn : q < n := by omega
      have em : ((a : Int) + (b : Int)) / 2 = (q : Int) := by omega
      have HFa := Lib.hid (show a ≤ q ∧ q < b ∧ b ≤ n ∧ n ≤ 1000000 by omega)
      have HXm := HF.out _ hbw q hmn
      have HC := Lib.hid (show (∀ i, i < a → orderV (l.getD i noE).1 ks < 0) ∧ (∀ i, b ≤ i → i < n → 0 ≤ orderV (l.getD i noE).1 ks) from ⟨h1, h2⟩)
      have hee := HE.out q hmn
      have HBW := Lib.hid hbw
      by_cases hd : orderV (l.getD q noE).1 ks < 0
      · have HR : Hid (∀ i, i < q + 1 → orderV (l.getD i noE).1 ks < 0) := Lib.hid (fun i hi => by
          rcases Nat.lt_or_ge i q with h' | h'
          · exact order_tr (HS.out i q h' (by omega)) hd
          · obtain rfl : i = q := by omega
            exact hd)
        rw [hee] at hd
        simp only at hd
        clear h1 h2 hee hbw
        generalize es.getD q noKV = x at hc0 hc1 HXm hd
        obtain ⟨xA, xn, xc, xz, xv⟩ := x
        simp only at hc0 hc1 HXm hd
        generalize orderV xz ks = o at HXm hd
        have HXM := Lib.hid HXm
        clear HXm
        go_wp2_with fail
        with_reducible refine (HXM.out).mono ?_
        rintro e w1 ⟨rfl, hb1⟩
        have HB1 := Lib.hid (HBW.out.trans (hb1.mono HBW.out.size))
        clear hb1
        go_wp2
        go_roundw
        case rel => exact ⟨q + 1, b, by go_num, rfl, by have := HFa.out; omega, by have := HFa.out; omega, HR.out, HC.out.2, HB1.out⟩
        case measure => have := HFa.out; simp [intOf]; omega
      · have HR : Hid (∀ i, q ≤ i → i < n → 0 ≤ orderV (l.getD i noE).1 ks) := Lib.hid (fun i hi hi2 => by
          rcases Nat.lt_or_ge q i with h' | h'
          · have := HS.out q i h' (by omega)
            rcases Int.lt_or_le (orderV (l.getD i noE).1 ks) 0 with h3 | h3
            · have := order_tr this h3; omega
            · exact h3
          · obtain rfl : i = q := by omega
            omega)
        rw [hee] at hd
        simp only at hd
        clear h1 h2 hee hbw
        generalize es.getD q noKV = x at hc0 hc1 HXm hd
        obtain ⟨xA, xn, xc, xz, xv⟩ := x
        simp only at hc0 hc1 HXm hd
        generalize orderV xz ks = o at HXm hd
        have HXM := Lib.hid HXm
        clear HXm
        go_wp2_with fail
        with_reducible refine (HXM.out).mono ?_
        rintro e w1 ⟨rfl, hb1⟩
        have HB1 := Lib.hid (HBW.out.trans (hb1.mono HBW.out.size))
        clear hb1
        go_wp2
        go_roundw
        case rel => exact ⟨a, q, rfl, rfl, by have := HFa.out; omega, by have := HFa.out; omega, HC.out.1, HR.out, HB1.out⟩
        case measure => have := HFa.out; simp [intOf]; omega
    · obtain rfl : a = b := by omega
      have hp : plK l ks = a := plK_eq (by rw [HL.out]; omega) h1 (fun hi => h2 a (Nat.le_refl _) (by rw [HL.out] at hi; exact hi))
      have q0 : decide ((a : Int) < (a : Int)) = false := decide_eq_false (by omega)
      have hh : hasK l ks = (decide (a < n) && (orderV (l.getD a noE).1 ks == 0)) := by unfold hasK; rw [hp, HL.out]
      have HP := Lib.hid hp
      have HBW := Lib.hid hbw
      rcases Nat.lt_or_ge a n with hlt | hge
      · rw [decide_eq_true hlt, Bool.true_and, HE.out a hlt] at hh
        simp only at hh
        obtain ⟨g, off, rfl, hgB, hc0, hc1⟩ := (HV.out.below (hbw.mono hB)).at_ (i := a) hlt
        have HXm := HF.out _ hbw a hlt
        have q2 : decide ((a : Int) < (n : Int)) = true := decide_eq_true (by omega)
        clear h1 h2 hp hbw
        generalize es.getD a noKV = x at hc0 hc1 HXm hh
        obtain ⟨xA, xn, xc, xz, xv⟩ := x
        simp only at hc0 hc1 HXm hh
        generalize orderV xz ks = o at HXm hh
        have HH := Lib.hid hh
        have HXM := Lib.hid HXm
        clear HXm hh
        go_wp2_with fail
        with_reducible refine (HXM.out).mono ?_
        rintro e w1 ⟨rfl, hb1⟩
        have HB1 := Lib.hid (HBW.out.trans (hb1.mono HBW.out.size))
        clear hb1
        go_wp2
        go_ret2
        exact ⟨by rw [HP.out, HH.out]; rfl, HB1.out⟩
      · rw [decide_eq_false (by omega), Bool.false_and] at hh
        have HB := Lib.hid hh
        have q2 : decide ((a : Int) < (n : Int)) = false := decide_eq_false (by omega)
        clear h1 h2 hp hh hbw
        go_wp2
        go_ret2
        exact ⟨by rw [HP.out, HB.out]; rfl, HBW.out⟩

theorem find_any (w : World) (B B' : Nat) (S : List Nat) (A A' : Option Addr) (n c m d : Nat) (es : List KV) (ks : List Nat) (h : VerA w B S A n c es) (h' : Arg w B' A' m d ks) (ho : srtK (es.map KV.ent)) (hn : n ≤ 1000000) (hB : B ≤ w.heap.size) (hB' : B' ≤ w.heap.size) :
    Calls Try.prog 109 #[.slice A n c, .slice A' m d] w
      fun e w' => e = .returned (.tuple #[.int .i64 ((plK (es.map KV.ent) ks : Nat) : Int), .bool (hasK (es.map KV.ent) ks)]) ∧ Below w.heap.size w w' := by
  have HS := Lib.hid (bsf_any w B B' S A A' n c m d es ks h h' ho hn hB hB')
  clear h h' ho
  go_enter Try.func109, Try.ntmps109
  go_wp2_with fail
  with_reducible refine (HS.out).mono ?_
  rintro e w1 ⟨rfl, hb1⟩
  have HB1 := Lib.hid hb1
  clear hb1
  go_wp2
  go_ret2
  exact ⟨rfl, HB1.out⟩
end Go.Proofs.Ytpjgpiiibgogeaa
