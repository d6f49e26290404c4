/- The law TokenDecodes: its walk. -/
import Derived.Test.YtlkkldegbopnpaaTokY
namespace Go.Proofs.Ytlkkldegbopnpaa
open Go.RowKit
set_option maxRecDepth 100000
set_option linter.unusedVariables false

theorem OwnB.cellAt {w : World} {B g n c : Nat} {xs : List Nat} (h : OwnB w B (some ⟨g, 0, none⟩) n c xs) {k : Nat} (hk : k < n) : w.cell? ⟨g, k, none⟩ = some (.int .u8 (xs.getD k 0 : Nat)) := by
  obtain ⟨g', e, _, hc⟩ := h.at0 (by omega)
  simp only [Option.some.injEq, Addr.mk.injEq, and_true] at e
  subst e
  exact hc k hk
theorem OwnB.frozenAt {w : World} {B g n c : Nat} {xs : List Nat} (h : OwnB w B (some ⟨g, 0, none⟩) n c xs) (k : Nat) : w.frozen? ⟨g, k, none⟩ = false := World.ownsRow.frozenAt h.1 k
theorem OwnB.stored {w : World} {B g n c : Nat} {xs : List Nat} (h : OwnB w B (some ⟨g, 0, none⟩) n c xs) (k v : Nat) (hv : v < 256) :
    OwnB (w.setCell ⟨g, k, none⟩ (V8 v)) B (some ⟨g, 0, none⟩) n c (xs.set k v) := by
  have := (World.ownsRow.stored (w := w) h.1 k (V8 v)).1
  refine ⟨?_, ?_⟩
  · rw [show (xs.set k v).map V8 = (xs.map V8).set k (V8 v) from List.map_set]
    exact this
  · intro d hd
    rcases List.mem_or_eq_of_mem_set hd with h' | h'
    · exact h.2 d h'
    · rw [h']; exact hv
theorem OwnB.grd {w : World} {B g n c : Nat} {xs : List Nat} (h : OwnB w B (some ⟨g, 0, none⟩) n c xs) : B ≤ g ∧ g < w.heap.size := by
  rcases h.1.2 with ⟨h1, h2⟩ | ⟨g', cap, cur, h1, hB, hg, _⟩
  · simp at h1
  · simp only [Value.slice.injEq, Option.some.injEq, Addr.mk.injEq, and_true, true_and] at h1
    obtain ⟨rfl, rfl⟩ := h1
    refine ⟨hB, ?_⟩
    rcases Nat.lt_or_ge g w.heap.size with h | h
    · exact h
    · rw [Array.getElem?_eq_none h] at hg; cases hg

/-- The loop that changes the key. -/
def KeyInv (w : World) (B2 tb Bp : Nat) (K F P A : Option Addr) (kn kc n d pc c : Nat) (p s : Int) (zs : List Nat) (iv : Value) (wr : World) : Prop :=
  ∃ (k : Nat) (xs : List Nat), k ≤ kn ∧ iv = .int .i64 (k : Int) ∧ OwnB wr B2 K kn kc xs ∧ BlkL wr tb [.int .i64 p, .slice K kn kc, .int .i64 s] ∧ OwnB wr Bp P (kn + 16) pc zs ∧ Arg wr B2 F (n + 3) d (zs ++ marks) ∧ Arg wr w.heap.size A n c zs ∧ Below w.heap.size w wr ∧ Bp ≤ wr.heap.size
theorem BlkL.ofBlock {w w' : World} {b : Nat} {xs : List Value} (h : BlkL w b xs) (e : w'.heap[b]? = w.heap[b]?) : BlkL w' b xs := by
  refine ⟨?_, fun i v hv => ?_, fun i hi => ?_⟩
  · rcases Nat.lt_or_ge b w'.heap.size with h' | h'
    · exact h'
    · rw [Array.getElem?_eq_none h', Array.getElem?_eq_getElem h.lt] at e; cases e
  · rw [World.cell?_of_block (w := w) (w' := w') (a := ⟨b, i, none⟩) e]; exact h.cell i v hv
  · rw [World.frozen?_of_block (w := w) (w' := w') (a := ⟨b, i, none⟩) e]; exact h.froz i hi
theorem OwnB.ofBlock {w w' : World} {B g n c : Nat} {xs : List Nat} (h : OwnB w B (some ⟨g, 0, none⟩) n c xs) (e : w'.heap[g]? = w.heap[g]?) : OwnB w' B (some ⟨g, 0, none⟩) n c xs := by
  rcases h with ⟨⟨h0, ⟨h1, _⟩ | ⟨g', cap, cur, h1, h2, h3, h4⟩⟩, hby⟩
  · simp at h1
  · have h1' := h1
    simp only [Value.slice.injEq, Option.some.injEq, Addr.mk.injEq, and_true, true_and] at h1'
    obtain ⟨rfl, rfl⟩ := h1'
    exact ⟨⟨h0, .inr ⟨_, _, cur, h1, h2, e.trans h3, h4⟩⟩, hby⟩
/-- An append of bytes, with all other blocks as they were. -/
theorem wpList_append_bytes2 {w : World} {ops : Array Oper} {rest : List Oper} {o : Oper} {a : Act} {Q : Exit → Act → World → Prop} (hgd : o.guard = none) (s x : Operand)
    (ho : o.op = .call { callee := .builtin .append, args := #[s, x], argTypes := #[22, 22] })
    (base : Nat) (A : Option Addr) (n c : Nat) (xs : List Nat) (hs : a.eval s = .slice A n c) (hown : OwnB w base A n c xs)
    (B : Nat) (ad : Addr) (m d : Nat) (zs : List Nat) (hx : a.eval x = .slice (some ad) m d) (hr : Arg w B (some ad) m d zs) (hm : 0 < m) (hbytes : n + m ≤ 140737488355328) (hbase : base ≤ w.heap.size)
    (h : ∀ A' c' w', OwnB w' base A' (n + m) c' (xs ++ zs) → Below base w w' → w.heap.size ≤ w'.heap.size → (∀ b, b < w.heap.size → (∀ g, A = some ⟨g, 0, none⟩ → b ≠ g) → w'.heap[b]? = w.heap[b]?) → wpList Try.prog ops Q rest (a.put o.dst (.slice A' (n + m) c')) w') : wpList Try.prog ops Q (o :: rest) a w := by
  obtain ⟨i0, hi, hz0, hz1, hz2⟩ := info_parts u8_info
  have hby : ∀ d ∈ xs ++ zs, d < 256 := fun d hd => by
    rcases List.mem_append.1 hd with hd | hd
    · exact hown.2 d hd
    · exact hr.byte d hd
  have hlt := fun k hk => (World.ownsRow.lt hown.1 k hk).1
  have hsm : n + m ≤ maxLen := by unfold maxLen; omega
  refine wpList_append_own w hgd s x 22 ho base 5 i0 (.int .u8 0) 1 1 Try.underlying22 hi hz0 hz1 hz2 rfl (by decide) _ n _ hs hown.1 ad m d (zs.map V8) hx (by simp [hr.len]) hr.cells (bytes_oneCell zs) hsm (by omega) hbase ?_
  intro v' w' h2 h3 h4
  have hown' := h2
  rw [← List.map_append] at hown'
  have hb' : Below base w w' := (Below.refl _ _).grown h3 hbase hlt
  have hsz : w.heap.size ≤ w'.heap.size := h3.size
  rcases h2.2 with ⟨e, e2⟩ | ⟨g, cap, cur, e, _⟩
  · have e0 : n + m = 0 := e2
    omega
  · subst e
    refine h _ _ _ ⟨hown', hby⟩ hb' hsz (fun b hb hne => h3.block b hb (fun e => ?_))
    cases A with
    | none => simp [Value.ownBlock] at e
    | some a' =>
      rcases hown.1.2 with ⟨h1, _⟩ | ⟨g', cap', cur', h1, _⟩
      · simp at h1
      · simp only [Value.slice.injEq, Option.some.injEq, true_and] at h1
        obtain ⟨rfl, rfl⟩ := h1
        simp [Value.ownBlock] at e
        exact hne g' rfl e
theorem Arg.set {w : World} {B n c : Nat} {A : Option Addr} {zs : List Nat} (h : Arg w B A n c zs) {b i : Nat} {v : Value} (hb : B ≤ b) : Arg (w.setCell ⟨b, i, none⟩ v) B A n c zs := h.below ((Below.refl B w).setCell (p := ⟨b, i, none⟩) hb v)

set_option maxHeartbeats 1600000 in
theorem tokenDecodes_err (A : Option Addr) (n c : Nat) (zs : List Nat) (w : World) (h : Arg w w.heap.size A n c zs) (hsz : c ≤ 140737488351232) (er : Int) (her : (er != 0) = true) (HE : Hid (∀ (w : World) (B : Nat) (F : Option Addr) (d : Nat), Arg w B F n d zs → B ≤ w.heap.size → Calls Try.prog 21 #[.slice F n d] w (ValEnd w (.tuple #[Tok0, .int .i64 er])))) (HD : Hid (∀ (w : World) (B : Nat) (F : Option Addr) (d : Nat), Arg w B F n d zs → B ≤ w.heap.size → Calls Try.prog 23 #[.slice F n d] w (ValEnd w (.tuple #[Tok0, .int .i64 er])))) :
    Calls Try.prog 4 #[.slice A n c] w (ValEnd w (.bool true)) := by
  have hle := h.le
  have hl := h.len
  have HL := Lib.hid hl
  have HA0 := Lib.hid h
  clear h hl
  go_enter Try.func4, Try.ntmps4
  go_wp2_with fail
  with_reducible refine (awake7_any _).mono ?_
  rintro e w1 ⟨rfl, hb⟩
  have HA1 := Lib.hid (HA0.out.below hb)
  have hz1 := hb.size
  have HB1 := Lib.hid hb
  clear hb HA0
  go_wp2_with fail
  with_reducible refine (spare_any _ A n c zs (HA1.out.more hz1) (by omega)).mono ?_
  rintro e w2 ⟨F, d, rfl, ho, hb⟩
  have hb2 := HB1.out.trans (hb.mono hz1)
  have HA2 := Lib.hid (HA1.out.below (hb.mono hz1))
  have hz2 := hb2.size
  have HB2 := Lib.hid hb2
  have HO2 := Lib.hid ho
  clear hb hb2 HA1 HB1 ho
  go_wp2_with fail
  with_reducible refine (HE.out _ _ F d (own_front HO2.out HL.out) (Nat.le_refl _)).mono ?_
  rintro e w3 ⟨rfl, hb⟩
  have hb3 := HB2.out.trans (hb.mono hz2)
  have hz3 := hb3.size
  have bt := (Below.refl w3.heap.size w3).alloc (Nat.le_refl _) (.cells #[.int .i64 0, .slice none 0 0, .int .i64 0] 24)
  have HA3 := Lib.hid ((HA2.out.below (hb.mono hz2)).below (bt.mono hz3))
  have HO3 := Lib.hid ((HO2.out.below hb).below bt)
  have HB3 := Lib.hid (hb3.alloc hz3 (.cells #[.int .i64 0, .slice none 0 0, .int .i64 0] 24))
  have HT3 := Lib.hid (BlkL.new w3 [.int .i64 0, .slice none 0 0, .int .i64 0] 24)
  have hz3' := HB3.out.size
  clear hb hb3 bt HA2 HO2 HB2
  go_wp2_with fail
  with_reducible refine (HD.out _ _ A c HA3.out hz3').mono ?_
  rintro e w5 ⟨rfl, hb⟩
  have hb5 := HB3.out.trans (hb.mono hz3')
  have hz5 := hb5.size
  have bt := (Below.refl w5.heap.size w5).alloc (Nat.le_refl _) (.cells #[.int .i64 0, .slice none 0 0, .int .i64 0] 24)
  have HA5 := Lib.hid ((HA3.out.below (hb.mono hz3')).below (bt.mono hz5))
  have HO5 := Lib.hid ((HO3.out.below hb).below bt)
  have HB5 := Lib.hid (hb5.alloc hz5 (.cells #[.int .i64 0, .slice none 0 0, .int .i64 0] 24))
  have t3 := HT3.out.below hb
  have HT5 := Lib.hid (t3.alloc (.cells #[.int .i64 0, .slice none 0 0, .int .i64 0] 24))
  have hz5' := HB5.out.size
  have c0 := t3.cell 0 _ rfl
  have c1 := t3.cell 1 _ rfl
  have c2 := t3.cell 2 _ rfl
  have zt := t3.lt
  have HS5 := Lib.hid (same7_any (w5.alloc (.cells #[.int .i64 0, .slice none 0 0, .int .i64 0] 24)) 0 0 none none 0 0 0 0 [] [] 0 0 0 0 true (Lib.hid (by simp)) (Arg.nil _ _) (Arg.nil _ _) (Nat.zero_le _) (Nat.zero_le _))
  clear hb hb5 bt HA3 HO3 HB3 t3 HT3
  go_wp2_with fail
  with_reducible refine HS5.out.mono ?_
  rintro e w6 ⟨rfl, hb⟩
  have hb6 := HB5.out.trans (hb.mono hz5')
  have hz6 := hb6.size
  have HA6 := Lib.hid (HA5.out.below (hb.mono hz5'))
  have HO6 := Lib.hid (HO5.out.below hb)
  have HB6 := Lib.hid hb6
  have HT6 := Lib.hid (HT5.out.below hb)
  clear c0 c1 c2 zt hb hb6 HA5 HO5 HB5 HT5 HS5
  go_wp2_with fail
  with_reducible refine (kept_any _ _ _ F A n c d zs HO6.out.arg HA6.out).mono ?_
  rintro e w7 ⟨rfl, t, rfl⟩
  have her2 : (er != er) = false := by simp
  go_wp2
  go_ret
  exact ⟨rfl, below_drewN HB6.out _⟩

set_option maxHeartbeats 1600000 in
theorem tokenDecodes_good (A : Option Addr) (n c : Nat) (zs : List Nat) (w : World) (h : Arg w w.heap.size A n c zs) (hsz : c ≤ 140737488351232) (p kn s : Nat) (ks : List Nat) (hp : p < 32) (hs1 : 1 ≤ s) (hs2 : s ≤ 4611686018427387903) (hkn : kn ≤ 255) (hnk : Hid (n = kn + 16)) (htok : Hid (tokV p ks s = zs)) (HE : Hid (∀ (w : World) (B : Nat) (F : Option Addr) (d : Nat), Arg w B F n d zs → B ≤ w.heap.size → Calls Try.prog 21 #[.slice F n d] w (TokEnd w p s ks kn))) (HD : Hid (∀ (w : World) (B : Nat) (F : Option Addr) (d : Nat), Arg w B F n d zs → B ≤ w.heap.size → Calls Try.prog 23 #[.slice F n d] w (TokEnd w p s ks kn))) :
    Calls Try.prog 4 #[.slice A n c] w (ValEnd w (.bool true)) := by
  have hle := h.le
  have hl := h.len
  have HL := Lib.hid hl
  have HA0 := Lib.hid h
  clear h hl
  go_enter Try.func4, Try.ntmps4
  go_wp2_with fail
  with_reducible refine (awake7_any _).mono ?_
  rintro e w1 ⟨rfl, hb⟩
  have HA1 := Lib.hid (HA0.out.below hb)
  have hz1 := hb.size
  have HB1 := Lib.hid hb
  clear hb HA0
  go_wp2_with fail
  with_reducible refine (spare_any _ A n c zs (HA1.out.more hz1) (by omega)).mono ?_
  rintro e w2 ⟨F, d, rfl, ho, hb⟩
  have hb2 := HB1.out.trans (hb.mono hz1)
  have HA2 := Lib.hid (HA1.out.below (hb.mono hz1))
  have hz2 := hb2.size
  have HB2 := Lib.hid hb2
  have HO2 := Lib.hid ho
  clear hb hb2 HA1 HB1 ho
  go_wp2_with fail
  with_reducible refine (HE.out _ _ F d (own_front HO2.out HL.out) (Nat.le_refl _)).mono ?_
  rintro e w3 ⟨K, kc, rfl, hok, hb⟩
  have hb3 := HB2.out.trans (hb.mono hz2)
  have hz3 := hb3.size
  have bt := (Below.refl w3.heap.size w3).alloc (Nat.le_refl _) (.cells #[.int .i64 (p : Int), .slice K kn kc, .int .i64 (s : Int)] 24)
  have HA3 := Lib.hid ((HA2.out.below (hb.mono hz2)).below (bt.mono hz3))
  have HO3 := Lib.hid ((HO2.out.below hb).below bt)
  have HB3 := Lib.hid (hb3.alloc hz3 (.cells #[.int .i64 (p : Int), .slice K kn kc, .int .i64 (s : Int)] 24))
  have HT3 := Lib.hid (BlkL.new w3 [.int .i64 (p : Int), .slice K kn kc, .int .i64 (s : Int)] 24)
  have hz3' := HB3.out.size
  have HK3 := Lib.hid (hok.below bt)
  have HKG : Hid (∀ g, K = some ⟨g, 0, none⟩ → g < w3.heap.size) := Lib.hid (fun g e => by subst e; exact hok.grd.2)
  have hq3 := hb.size
  have HF3 := Lib.hid ((HO2.out.arg.below hb).below (bt.mono hq3))
  clear hok
  clear hb hb3 bt HA2 HO2 HB2
  go_wp2_with fail
  with_reducible refine (HD.out _ _ A c HA3.out hz3').mono ?_
  rintro e w5 ⟨U, uc, rfl, hou, hb⟩
  have hb5 := HB3.out.trans (hb.mono hz3')
  have hz5 := hb5.size
  have bt := (Below.refl w5.heap.size w5).alloc (Nat.le_refl _) (.cells #[.int .i64 (p : Int), (.slice U kn uc), .int .i64 (s : Int)] 24)
  have HA5 := Lib.hid ((HA3.out.below (hb.mono hz3')).below (bt.mono hz5))
  have HO5 := Lib.hid ((HO3.out.below hb).below bt)
  have HB5 := Lib.hid (hb5.alloc hz5 (.cells #[.int .i64 (p : Int), (.slice U kn uc), .int .i64 (s : Int)] 24))
  have t3 := HT3.out.below hb
  have HT5 := Lib.hid (t3.alloc (.cells #[.int .i64 (p : Int), (.slice U kn uc), .int .i64 (s : Int)] 24))
  have hz5' := HB5.out.size
  have c0 := t3.cell 0 _ rfl
  have c1 := t3.cell 1 _ rfl
  have c2 := t3.cell 2 _ rfl
  have zt := t3.lt
  have HK5 := Lib.hid ((HK3.out.below hb).below bt)
  have HU5 := Lib.hid (hou.below bt)
  have HS5 := Lib.hid (same7_any _ _ _ K U kn kc kn uc ks ks (p : Int) (p : Int) (s : Int) (s : Int) true (Lib.hid (by simp)) HK5.out.arg HU5.out.arg (Nat.le_refl _) (Nat.le_refl _))
  have hq5 : w3.heap.size + 1 ≤ w5.heap.size := by have := hb.size; simpa using this
  have HF5 := Lib.hid ((HF3.out.below (hb.mono (by simp; omega))).below (bt.mono (by omega)))
  clear hou HK3 HF3
  clear hb hb5 bt HA3 HO3 HB3 t3 HT3
  go_wp2_with fail
  with_reducible refine HS5.out.mono ?_
  rintro e w6 ⟨rfl, hb⟩
  have hb6 := HB5.out.trans (hb.mono hz5')
  have hz6 := hb6.size
  have HA6 := Lib.hid (HA5.out.below (hb.mono hz5'))
  have HO6 := Lib.hid (HO5.out.below hb)
  have HB6 := Lib.hid hb6
  have HT6 := Lib.hid (HT5.out.below hb)
  have HK6 := Lib.hid (HK5.out.below hb)
  have hq6 : w5.heap.size + 1 ≤ w6.heap.size := by have := hb.size; simpa using this
  have HF6 := Lib.hid (HF5.out.below (hb.mono (by simp; omega)))
  clear HK5 HU5 HF5
  clear c0 c1 c2 zt hb hb6 HA5 HO5 HB5 HT5 HS5
  go_wp2_with fail
  with_reducible refine (kept_any _ _ _ F A n c d zs HO6.out.arg HA6.out).mono ?_
  rintro e w7 ⟨rfl, t, rfl⟩
  have HT7 := Lib.hid (HT6.out.drewN t)
  have HK7 := Lib.hid (HK6.out.drewN t)
  have HO7 := Lib.hid (HO6.out.drewN t)
  have HA7 := Lib.hid (HA6.out.drewN t)
  have HF7 := Lib.hid (HF6.out.drewN t)
  have HB7 := Lib.hid (below_drewN HB6.out t)
  have t7 := HT7.out
  have c0 := t7.cell 0 _ rfl
  have c1 := t7.cell 1 _ rfl
  have c2 := t7.cell 2 _ rfl
  have zt := t7.lt
  obtain ⟨wy, hwy⟩ : ∃ x, x = w6.drewN t := ⟨_, rfl⟩
  have hq7 : w5.heap.size + 1 ≤ (w6.drewN t).heap.size := hq6
  rw [← hwy] at HT7 HK7 HO7 HA7 HB7 HF7 hq7 c0 c1 c2 zt
  rw [← hwy]
  clear t7 hwy HT6 HK6 HO6 HA6 HB6 HF6 hz6 hq6
  go_wp2_with fail
  with_reducible refine (encode_good wy _ p s K kn kc ks HK7.out.arg (Nat.le_refl _) hp hs1 hs2 hkn).mono ?_
  rintro e w8 ⟨P, pc, rfl, hop, hb⟩
  have hz7 := HB7.out.size
  have HK8 := Lib.hid (HK7.out.below hb)
  have HF8 := Lib.hid (HF7.out.below (hb.mono (by omega)))
  have hq8 := hb.size
  have HA8 := Lib.hid (HA7.out.below (hb.mono hz7))
  have HT8 := Lib.hid (HT7.out.below hb)
  have HB8 := Lib.hid (HB7.out.trans (hb.mono hz7))
  have hz8 := HB8.out.size
  have HP8 := Lib.hid hop
  clear c0 c1 c2 zt HT7 HK7 HO7 HA7 HB7 HF7 hb
  have t8 := HT8.out
  have c0 := t8.cell 0 _ rfl
  have c1 := t8.cell 1 _ rfl
  have c2 := t8.cell 2 _ rfl
  have zt := t8.lt
  clear t8
  rw [htok.out] at hop
  have HP8 := Lib.hid hop
  clear hop
  have HQ : Hid (w2.heap.size ≤ w3.heap.size ∧ w3.heap.size < wy.heap.size) := Lib.hid ⟨hq3, by omega⟩
  go_wp2
  go_loopw [54] (fun iv wr => KeyInv w w2.heap.size w3.heap.size wy.heap.size K F P A kn kc n d pc c (p : Int) (s : Int) zs iv wr) (fun iv _ => kn - (intOf iv).toNat)
  case atStart => exact ⟨0, ks, Nat.zero_le _, rfl, HK8.out, HT8.out, HP8.out, HF8.out, HA8.out, HB8.out, hq8⟩
  case round =>
    obtain ⟨k, xs, hk, rfl, hkey, htk, hP, hF, hA, hB, hq9⟩ := hrel
    clear c0 c1 c2 zt HK8 HT8 HP8 HF8 HA8 HB8
    have c0 := htk.cell 0 _ rfl
    have c1 := htk.cell 1 _ rfl
    have c2 := htk.cell 2 _ rfl
    have f1 := htk.froz 1 (by simp)
    have zt := htk.lt
    have HKEY := Lib.hid hkey
    have HTK := Lib.hid htk
    have HP := Lib.hid hP
    have HF := Lib.hid hF
    have HA := Lib.hid hA
    have HB := Lib.hid hB
    have hqB := hB.size
    clear htk hP hF hA hB
    rcases Nat.lt_or_ge k kn with h1 | h1
    · obtain ⟨g, rfl, hg, hcg⟩ := hkey.at0 (by omega)
      have hck := hcg k h1
      have hfk := hkey.frozenAt k
      have hgl := HKG.out g rfl
      have hgb := hkey.grd.1
      have hx : xs.getD k 0 < 256 := hkey.arg.lt k
      have hkl := hkey.arg.cap
      unfold maxLen at hkl
      generalize xs.getD k 0 = x at hck hx
      have hcast : (((x + 1) % 256 : Nat) : Int) = ((x : Int) + 1) % 256 := by omega
      have HC := Lib.hid hcast
      have HK2 := Lib.hid (hkey.stored k ((x + 1) % 256) (Nat.mod_lt _ (by omega)))
      have HT2 := Lib.hid (HTK.out.other g k (V8 ((x + 1) % 256)) (by omega))
      have HP2 := Lib.hid (HP.out.other (b := g) (i := k) (v := V8 ((x + 1) % 256)) (by omega))
      have HF2 := Lib.hid (HF.out.set (b := g) (i := k) (v := V8 ((x + 1) % 256)) hgb)
      have HA2 := Lib.hid (HA.out.set (b := g) (i := k) (v := V8 ((x + 1) % 256)) (by omega))
      have HB2' := Lib.hid (HB.out.setCell (p := ⟨g, k, none⟩) (by show w.heap.size ≤ g; omega) (V8 ((x + 1) % 256)))
      have hle2 := HKEY.out.arg.le
      have hcapk := HKEY.out.arg.cap
      unfold maxLen at hcapk
      simp only [V8, hcast] at HK2 HT2 HP2 HF2 HA2 HB2'
      clear hcast hkey hcg
      go_wp2
      go_roundw
      case rel => exact ⟨k + 1, _, by omega, by go_num, HK2.out, HT2.out, HP2.out, HF2.out, HA2.out, HB2'.out, by simpa using hq9⟩
      case measure => simp [intOf]; omega
    · obtain rfl : k = kn := by omega
      have HL2 := Lib.hid (lit2 wr 1 2 (0, 0) (by omega) (by omega))
      have HKa := Lib.hid (hkey.below ((Below.refl wr.heap.size wr).alloc (Nat.le_refl _) (.cells #[.int .u8 (1 : Nat), .int .u8 (2 : Nat)] 5)))
      have bl2 := (Below.refl wr.heap.size wr).alloc (Nat.le_refl _) (.cells #[.int .u8 (1 : Nat), .int .u8 (2 : Nat)] 5)
      have HTl := Lib.hid (HTK.out.below bl2)
      have HPl := Lib.hid (HP.out.below bl2)
      have HFl := Lib.hid (HF.out.below (bl2.mono (by omega)))
      have HAl := Lib.hid (HA.out.below (bl2.mono (by omega)))
      have HBl := Lib.hid (HB.out.trans (bl2.mono (by omega)))
      clear hkey bl2
      go_wp2_with (refine wpList_append_bytes2 rfl (.tmp 66) (.tmp 67) rfl w2.heap.size K k kc xs rfl HKa.out (wr.heap.size + 1) ⟨wr.heap.size, 0, none⟩ 2 2 [1, 2] rfl HL2.out (by omega) (by omega) (by have := HQ.out; simp; omega) ?_)
      intro K2 kc2 wz hoz hbz hsz2 hblk
      try simp only [World.size_alloc] at hsz2
      try simp only [World.size_alloc] at hblk
      obtain ⟨gp, hgp, hgp2, _⟩ := HPl.out.at0 (by omega)
      have hPz : OwnB wz wy.heap.size P (k + 16) pc zs := by
        have h1 := HPl.out
        rw [hgp] at h1 ⊢
        have h2 := h1.grd
        simp only [World.size_alloc] at h2
        exact h1.ofBlock (hblk gp (by omega) (fun g e => by have := HKG.out g e; have := HQ.out; omega))
      have hTz := HTl.out.ofBlock (hblk w3.heap.size (by omega) (fun g e => by have := HKG.out g e; omega))
      have hFz := HFl.out.below hbz
      have hAz := HAl.out.below (hbz.mono (by omega))
      have hBz := HBl.out.trans (hbz.mono (by omega))
      have hTs := hTz.set 1 (.slice K2 (k + 2) kc2) (by simp)
      have HPs := Lib.hid (hPz.other (b := w3.heap.size) (i := 1) (v := .slice K2 (k + 2) kc2) (by have := HQ.out; omega))
      have HFs := Lib.hid (hFz.set (b := w3.heap.size) (i := 1) (v := .slice K2 (k + 2) kc2) (by have := HQ.out; omega))
      have HAs := Lib.hid (hAz.set (b := w3.heap.size) (i := 1) (v := .slice K2 (k + 2) kc2) (by omega))
      have HBs := Lib.hid (hBz.setCell (p := ⟨w3.heap.size, 1, none⟩) (by show w.heap.size ≤ w3.heap.size; omega) (.slice K2 (k + 2) kc2))
      simp only [List.set_cons_succ, List.set_cons_zero] at hTs
      have HTs := Lib.hid hTs
      have y0 := hTz.cell 0 _ rfl
      have y1 := hTz.cell 1 _ rfl
      have y2 := hTz.cell 2 _ rfl
      have g1 := hTz.froz 1 (by simp)
      have yz := hTz.lt
      clear hTz hFz hAz hBz hTs hPz hoz hbz hblk hgp hgp2 HTK HP HF HA HB HKEY HTl HPl HFl HAl HBl HKa HL2 c0 c1 c2 f1 zt
      go_wp2_with fail
      with_reducible refine (same_any _ _ _ P A (k + 16) pc n c zs zs true (by simp) HPs.out.arg HAs.out).mono ?_
      rintro e w9 ⟨rfl, t9, rfl⟩
      go_wp2_with fail
      with_reducible refine (kept_any _ _ _ F A n c d zs (HFs.out.drewN _) (HAs.out.drewN _)).mono ?_
      rintro e w10 ⟨rfl, t10, rfl⟩
      have kt := HTs.out.drewN (t9 + t10)
      have v1 := kt.cell 1 _ rfl
      have vz := kt.lt
      have hd1 : decide ((1 : Int) < (k : Int) + 2) = true := decide_eq_true (by omega)
      clear kt y0 y1 y2 g1 yz
      go_wp2
      go_ret
      exact ⟨rfl, below_drewN HBs.out _⟩


theorem tokenDecodes_walk (A : Option Addr) (n c : Nat) (zs : List Nat) (w : World) (h : Arg w w.heap.size A n c zs) (hsz : c ≤ 140737488351232) :
    Calls Try.prog 4 #[.slice A n c] w (ValEnd w (.bool true)) := by
  rcases Nat.lt_or_ge 4096 n with h1 | h1
  · exact tokenDecodes_err A n c zs w h hsz 2 rfl (Lib.hid fun w B F d _ _ => decode_long w F n d h1) (Lib.hid fun w B F d _ _ => docDecode_long w F n d h1)
  · by_cases hok : decOk zs
    · have hok' := hok
      obtain ⟨hl, hp, hs1, hs2, he⟩ := hok
      have hb3 := h.lt 3
      exact tokenDecodes_good A n c zs w h hsz (zs.getD 2 0) (zs.getD 3 0) (dSer zs) (dKey zs) hp hs1 hs2 (by omega) (Lib.hid (by rw [← h.len]; exact hl)) (Lib.hid he)
        (Lib.hid fun w B F d ha hB => decode_good w B F n d zs ha hB hok') (Lib.hid fun w B F d ha hB => docDecode_good w B F n d zs ha hB hok')
    · exact tokenDecodes_err A n c zs w h hsz 3 rfl (Lib.hid fun w B F d ha hB => decode_bad w B F n d zs ha hB h1 hok) (Lib.hid fun w B F d ha hB => docDecode_bad w B F n d zs ha hB h1 hok)
end Go.Proofs.Ytlkkldegbopnpaa
