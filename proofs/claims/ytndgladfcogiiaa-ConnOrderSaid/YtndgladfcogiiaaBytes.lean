/- Words for lists of bytes that a call made; contracts: SameBytes, Twin, Order. -/
import Derived.Test.YtndgladfcogiiaaHash
import Derived.Maps.AppendAt
import Derived.Laws.CopyOwn
import Derived.Lib.Bytealg
namespace Go.Proofs.Ytndgladfcogiiaa
open Go.RowKit
set_option maxRecDepth 100000

/-- A byte as a value. -/
abbrev V8 (d : Nat) : Value := .int .u8 (d : Int)

def OwnB (w : World) (B : Nat) (A : Option Addr) (n c : Nat) (xs : List Nat) : Prop :=
  w.ownsRow B 5 1 (.slice A n c) n (xs.map V8) ∧ ∀ d ∈ xs, d < 256

theorem u8_info : (Try.prog.info? 5).map (fun i => (i.zero, i.size, i.bytes)) = some (some (.int .u8 0), 1, 1) := by kernel_rfl
theorem u8_size : (Try.prog.info? 5).map (·.size) = some 1 := by kernel_rfl

section
variable {w w' : World} {B B' n c : Nat} {A : Option Addr} {xs zs : List Nat}

theorem OwnB.len (h : OwnB w B A n c xs) : xs.length = n := by have := h.1.1; simpa using this
theorem OwnB.arg (h : OwnB w B A n c xs) : Arg w w.heap.size A n c xs := by
  have hl := h.len
  obtain ⟨h1, hby⟩ := h
  have hh := h1
  rcases h1 with ⟨h0, ⟨h, rfl⟩ | ⟨g, cap, cur, h1, h2, h3, h4, h5, h6, h7⟩⟩
  · simp only [Value.slice.injEq] at h
    obtain ⟨rfl, _, rfl⟩ := h
    obtain rfl : xs = [] := List.eq_nil_of_length_eq_zero (by omega)
    exact Arg.nil _ _
  · simp only [Value.slice.injEq, true_and] at h1
    obtain ⟨rfl, rfl⟩ := h1
    have hlt : g < w.heap.size := by
      rcases Nat.lt_or_ge g w.heap.size with h | h
      · exact h
      · rw [Array.getElem?_eq_none h] at h3; cases h3
    refine ⟨hl, h4, h5, hby, (fun h => by cases h), fun hn => ⟨g, 0, rfl, hlt, fun k hk => ?_⟩⟩
    have := World.ownsRow.cellAt (w := w) hh k (by omega)
    rw [Nat.zero_add, this, List.getElem?_map, List.getElem?_eq_getElem (by omega)]
    simp [V8, List.getD_eq_getElem?_getD, hl, hk]
theorem OwnB.mono (h : OwnB w B A n c xs) (hB : B' ≤ B) : OwnB w B' A n c xs := by
  rcases h with ⟨⟨h0, h | ⟨g, cap, cur, h1, h2, h3⟩⟩, hb⟩
  · exact ⟨⟨h0, .inl h⟩, hb⟩
  · exact ⟨⟨h0, .inr ⟨g, cap, cur, h1, Nat.le_trans hB h2, h3⟩⟩, hb⟩
theorem OwnB.below (h : OwnB w B A n c xs) (hb : Below w.heap.size w w') : OwnB w' B A n c xs := by
  rcases h with ⟨⟨h0, h | ⟨g, cap, cur, h1, h2, h3, h4⟩⟩, hby⟩
  · exact ⟨⟨h0, .inl h⟩, hby⟩
  · have hlt : g < w.heap.size := by
      rcases Nat.lt_or_ge g w.heap.size with h | h
      · exact h
      · rw [Array.getElem?_eq_none h] at h3; cases h3
    exact ⟨⟨h0, .inr ⟨g, cap, cur, h1, h2, (hb.block g hlt).trans h3, h4⟩⟩, hby⟩
theorem OwnB.drewN (h : OwnB w B A n c xs) (k : Nat) : OwnB (w.drewN k) B A n c xs := h
/-- A literal that a call laid. -/
theorem OwnB.lit (w : World) (xs : List Nat) (hx : ∀ d ∈ xs, d < 256) (hn : xs.length = n) (hm : n ≤ maxLen) : OwnB (w.alloc (.cells (xs.map V8).toArray 5)) w.heap.size (some ⟨w.heap.size, 0, none⟩) n n xs := by
  have h := World.ownsRow_lit (base := w.heap.size) (e := 5) (size := 1) w (xs.map V8).toArray n (Nat.le_refl _) hm (by simp [hn])
  exact ⟨by simpa using h, hx⟩
/-- A row known whole. -/
theorem OwnB.block {g : Nat} (h : OwnB w B (some ⟨g, 0, none⟩) n n xs) : w.heap[g]? = some (.cells (xs.map V8).toArray 5 (0, 0)) := by
  have hl := h.len
  rcases h.1 with ⟨h0, ⟨h, rfl⟩ | ⟨g', cap, cur, h1, h2, h3, h4, h5, h6, h7⟩⟩
  · simp at h
  · simp only [Value.slice.injEq, Option.some.injEq, Addr.mk.injEq, and_true, true_and] at h1
    obtain ⟨rfl, rfl⟩ := h1
    rw [List.take_of_length_le (by rw [Array.length_toList]; omega)] at h7
    rw [h3, ← h7]
theorem OwnB.of_block {g : Nat} (h : w.heap[g]? = some (.cells (xs.map V8).toArray 5 (0, 0))) (hB : B ≤ g) (hl : xs.length = n) (hm : n ≤ maxLen) (hx : ∀ d ∈ xs, d < 256) : OwnB w B (some ⟨g, 0, none⟩) n n xs :=
  ⟨⟨by simp [hl], .inr ⟨g, n, _, rfl, hB, h, Nat.le_refl _, hm, by simp [hl], List.take_of_length_le (by simp [hl])⟩⟩, hx⟩

/-- The cells of what is read, for the laws on append and copy. -/
theorem Arg.cells {ad : Addr} (h : Arg w B (some ad) n c zs) : ∀ j u, (zs.map V8)[j]? = some u → w.cell? (ad.add j) = some u := by
  intro j u hj
  have hjl : j < zs.length := by
    rcases Nat.lt_or_ge j zs.length with h | h
    · exact h
    · rw [List.getElem?_eq_none (by simpa using h)] at hj; cases hj
  have hl := h.len
  obtain ⟨b, off, e, _, hc⟩ := h.at_ (by omega)
  injection e with e
  subst e
  have hk := hc j (by omega)
  have e2 : (⟨b, off, none⟩ : Addr).add j = ⟨b, off + j, none⟩ := by unfold Addr.add; split <;> simp_all
  rw [e2, hk]
  rw [List.getElem?_map, List.getElem?_eq_getElem hjl] at hj
  simp only [Option.map_some, Option.some.injEq] at hj
  rw [← hj]
  simp [V8, List.getD_eq_getElem?_getD, hjl]
theorem bytes_oneCell (zs : List Nat) : ∀ u ∈ zs.map V8, u.oneCell' = true := by
  intro u hu
  obtain ⟨z, _, rfl⟩ := List.mem_map.1 hu
  rfl
end

/-- An append of bytes that are read from wherever they lie. -/
theorem wpList_append_bytes {w : World} {ops : Array Oper} {rest : List Oper} {o : Oper} {a : Act} {Q : Exit → Act → World → Prop} (hgd : o.guard = none) (s x : Operand)
    (ho : o.op = .call { callee := .builtin .append, args := #[s, x], argTypes := #[22, 22] })
    (base : Nat) (A : Option Addr) (n c : Nat) (xs : List Nat) (hs : a.eval s = .slice A n c) (hown : OwnB w base A n c xs)
    (B : Nat) (S : Option Addr) (m d : Nat) (zs : List Nat) (hx : a.eval x = .slice S m d) (hr : Arg w B S m d zs) (hbytes : n + m ≤ 140737488355328) (hbase : base ≤ w.heap.size)
    (h : ∀ A' c' w', OwnB w' base A' (n + m) c' (xs ++ zs) → Below base w w' → wpList Try.prog ops Q rest (a.put o.dst (.slice A' (n + m) c')) w') : wpList Try.prog ops Q (o :: rest) a w := by
  obtain ⟨i0, hi, hz0, hz1, hz2⟩ := info_parts u8_info
  have hby : ∀ d ∈ xs ++ zs, d < 256 := fun d hd => by
    rcases List.mem_append.1 hd with hd | hd
    · exact hown.2 d hd
    · exact hr.byte d hd
  have hlt := fun k hk => (World.ownsRow.lt hown.1 k hk).1
  have hsm : n + m ≤ maxLen := by unfold maxLen; omega
  cases S with
  | some ad =>
    refine wpList_append_own w hgd s x 22 ho base 5 i0 (.int .u8 0) 1 1 Try.underlying22 hi hz0 hz1 hz2 rfl (by decide) _ n _ hs hown.1 ad m d (zs.map V8) hx (by simp [hr.len]) hr.cells (bytes_oneCell zs) hsm (by omega) hbase ?_
    intro v' w' h2 h3 h4
    have hown' := h2
    rw [← List.map_append] at hown'
    have hb' : Below base w w' := (Below.refl _ _).grown h3 hbase hlt
    rcases h2.2 with ⟨e, e2⟩ | ⟨g, cap, cur, e, _⟩
    · subst e
      have e0 : n + m = 0 := e2
      rw [e0] at hown'
      have := h none 0 w' (by rw [e0]; exact ⟨hown', hby⟩) hb'
      rw [e0] at this
      exact this
    · subst e
      exact h _ _ _ ⟨hown', hby⟩ hb'
  | none =>
    obtain ⟨rfl, rfl⟩ := hr.none_ rfl
    obtain rfl : zs = [] := List.eq_nil_of_length_eq_zero (by have := hr.len; omega)
    refine wpList_plain hgd fun K hK' => ?_
    have hrun := run_append_owned_none (P := Try.prog) w base 22 o.type 5 i0 1 Try.underlying22 hi _ n _ hown.1
    unfold Oper.wp
    simp [execOp, ho, resolve, invoke, builtin, hs, hx, hrun, Result.andThen]
    exact hK' _ _ (by simpa using h A c w (by simpa using hown) (Below.refl _ _))

set_option maxHeartbeats 400000 in
theorem twin_any (w : World) (B : Nat) (A : Option Addr) (n c : Nat) (zs : List Nat) (h : Arg w B A n c zs) (hB : B ≤ w.heap.size) (hn : n ≤ 140737488355328) :
    Calls Try.prog 77 #[.slice A n c] w fun e w' => ∃ A' c', e = .returned (.slice A' n c') ∧ OwnB w' w.heap.size A' n c' zs ∧ Below w.heap.size w w' := by
  have hown0 : OwnB (w.alloc (.cells #[] 5)) w.heap.size (some ⟨w.heap.size, 0, none⟩) 0 0 [] := OwnB.lit w [] (by simp) rfl (by unfold maxLen; omega)
  have harg := h.more hB
  have HA := Lib.hid (harg.below ((Below.refl _ w).alloc (Nat.le_refl _) (.cells #[] 5)))
  have HO := Lib.hid hown0
  clear hown0 harg h
  go_enter Try.func77, Try.ntmps77
  go_wp2_with (refine wpList_append_bytes rfl (.tmp 3) (.tmp 4) rfl w.heap.size (some ⟨w.heap.size, 0, none⟩) 0 0 [] rfl HO.out w.heap.size A n c zs rfl HA.out (by omega) (by simp) ?_)
  intro A' c' w' ho hb
  have HO2 := Lib.hid ho
  have HB2 := Lib.hid (((Below.refl _ w).alloc (Nat.le_refl _) (.cells #[] 5)).trans hb)
  clear ho hb
  go_wp2
  go_ret
  exact ⟨A', c', rfl, by simpa using HO2.out, HB2.out⟩

def SameInv (w : World) (xs ys : List Nat) (n : Nat) (iv : Value) (wr : World) : Prop :=
  ∃ k t : Nat, k ≤ n ∧ iv = .int .i64 (k : Int) ∧ xs.take k = ys.take k ∧ wr = w.drewN t

theorem take_succ_eq {xs ys : List Nat} {k : Nat} (h : xs.take k = ys.take k) (hx : k < xs.length) (hy : k < ys.length) (hd : xs.getD k 0 = ys.getD k 0) : xs.take (k + 1) = ys.take (k + 1) := by
  rw [Mth.take_succ_getD xs k hx, Mth.take_succ_getD ys k hy, h, hd]

def SameEnd (w : World) (r : Bool) (e : Ending) (w' : World) : Prop := e = .returned (.bool r) ∧ ∃ t, w' = w.drewN t

set_option maxHeartbeats 800000 in
theorem same_any (w : World) (B B' : Nat) (A A' : Option Addr) (n c m d : Nat) (xs ys : List Nat) (r : Bool) (hr : decide (xs = ys) = r) (h : Arg w B A n c xs) (h' : Arg w B' A' m d ys) :
    Calls Try.prog 23 #[.slice A n c, .slice A' m d] w (SameEnd w r) := by
  have hxl := h.len
  have hyl := h'.len
  have hle := h.le
  have hcap := h.cap
  unfold maxLen at hcap
  have hle' := h'.le
  have hcap' := h'.cap
  unfold maxLen at hcap'
  by_cases hnm : n = m
  · subst hnm
    have HR := Lib.hid hr
    have HXL := Lib.hid hxl
    have HYL := Lib.hid hyl
    clear hr hxl hyl
    go_enter Try.func23, Try.ntmps23
    go_wp2
    go_loopw [13] (fun iv wr => SameInv w xs ys n iv wr) (fun iv _ => n - (intOf iv).toNat)
    case atStart => exact ⟨0, 0, Nat.zero_le _, rfl, rfl, rfl⟩
    case round =>
      obtain ⟨k, t, hk, rfl, he, rfl⟩ := hrel
      rcases Nat.lt_or_ge k n with h1 | h1
      · obtain ⟨b1, o1, rfl, _, hc1⟩ := h.at_ (by omega)
        obtain ⟨b2, o2, rfl, _, hc2⟩ := h'.at_ (by omega)
        have hk1 := hc1 k h1
        have hk2 := hc2 k h1
        have hst := take_succ_eq (k := k) he (by rw [HXL.out]; exact h1) (by rw [HYL.out]; exact h1)
        have hne : xs.getD k 0 ≠ ys.getD k 0 → false = r := by
          intro hne
          rw [← HR.out]
          refine (decide_eq_false ?_).symm
          intro e
          exact hne (by rw [e])
        have hlx := h.lt k
        have hly := h'.lt k
        clear hc1 hc2 h h'
        generalize xs.getD k 0 = x at hk1 hst hne hlx
        generalize ys.getD k 0 = y at hk2 hst hne hly
        have HST := Lib.hid hst
        have HNE := Lib.hid hne
        have HE := Lib.hid he
        clear hst hne he
        by_cases hxy : x = y
        · subst hxy
          go_wp2
          go_quiet (fail)
          go_wp2
          go_roundw
          case rel => exact ⟨k + 1, _, by omega, by go_num, HST.out (by trivial), rfl⟩
          case measure => simp [intOf]; omega
        · have hb : ((x : Int) == (y : Int)) = false := by rw [beq_eq_false_iff_ne]; omega
          have hb2 : ((x : Int) != (y : Int)) = true := by rw [bne_iff_ne]; omega
          have HXY := Lib.hid hxy
          clear hxy
          go_wp2
          go_quiet (fail)
          go_wp2
          go_ret
          exact ⟨ret_bool (HNE.out HXY.out), _, by rw [World.drewN_drewN]⟩
      · obtain rfl : k = n := by omega
        have hfin : true = r := by
          rw [← HR.out]
          rw [List.take_of_length_le (by rw [HXL.out]; exact Nat.le_refl _), List.take_of_length_le (by rw [HYL.out]; exact Nat.le_refl _)] at he
          exact (decide_eq_true he).symm
        have HF := Lib.hid hfin
        clear hfin he h h'
        go_wp2
        go_ret
        exact ⟨ret_bool HF.out, t, rfl⟩
  · have hfin : false = r := by
      rw [← hr]
      refine (decide_eq_false ?_).symm
      intro e
      rw [e] at hxl
      omega
    have HF := Lib.hid hfin
    have hb : ((n : Int) == (m : Int)) = false := by rw [beq_eq_false_iff_ne]; omega
    have hb2 : ((n : Int) != (m : Int)) = true := by rw [bne_iff_ne]; omega
    clear hfin hr h h' hnm hxl hyl
    go_enter Try.func23, Try.ntmps23
    go_wp2
    go_ret
    exact ⟨ret_bool HF.out, 0, rfl⟩

/-- What the entry for bytes reads. -/
def bytesArr (zs : List Nat) : ByteArray := ⟨(zs.map fun d => UInt8.ofNat d).toArray⟩

theorem run_loadBytes (P : Program) (w : World) : ∀ (zs : List Nat) (a : Addr) (acc : ByteArray) (_ : ∀ j u, (zs.map V8)[j]? = some u → w.cell? (a.add j) = some u),
    (Extern.Bytes.loadBytes a zs.length acc).run P w = .ok ⟨acc.data ++ (zs.map fun d => UInt8.ofNat d).toArray⟩ w
  | [], a, acc, _ => by simp [Extern.Bytes.loadBytes]
  | z :: zs, a, acc, h => by
    have h0 := h 0 (V8 z) (by simp)
    have h0' : w.cell? a = some (V8 z) := by simpa [Addr.add] using h0
    have ih := run_loadBytes P w zs (a.add 1) (acc.push (UInt8.ofNat z)) (fun j u hj => by
      have := h (j + 1) u (by simpa using hj)
      have e : (a.add 1).add j = a.add (j + 1) := by
        unfold Addr.add
        by_cases hj0 : j = 0
        · simp [hj0]
        · simp [hj0]; omega
      rw [e]; exact this)
    have hl : (load a).run P w = .ok (V8 z) w := by simp [go_sem, h0']
    rw [List.length_cons]
    unfold Extern.Bytes.loadBytes
    simp only [Sem.run_bind, hl, Result.andThen]
    have e2 : ((z : Int).toNat.toUInt8) = UInt8.ofNat z := by simp
    simp only [e2, ih]
    simp [ByteArray.push]

theorem run_bytesOf {P : Program} {w : World} {B : Nat} {A : Option Addr} {n c : Nat} {zs : List Nat} (h : Arg w B A n c zs) : (Extern.Bytes.bytesOf (.slice A n c)).run P w = .ok (bytesArr zs) w := by
  cases A with
  | none =>
    obtain ⟨rfl, rfl⟩ := h.none_ rfl
    obtain rfl : zs = [] := List.eq_nil_of_length_eq_zero (by have := h.len; omega)
    rfl
  | some ad =>
    have hl := run_loadBytes P w zs ad .empty h.cells
    rw [h.len] at hl
    unfold Extern.Bytes.bytesOf
    rw [hl]
    simp [bytesArr, ByteArray.empty, ByteArray.emptyWithCapacity]
    rfl

/-- -1, 0 or 1, byte by byte. -/
def orderV : List Nat → List Nat → Int
  | [], [] => 0
  | [], _ :: _ => -1
  | _ :: _, [] => 1
  | x :: a, y :: b => if x < y then -1 else if y < x then 1 else orderV a b

theorem orderV_eq : ∀ (a b : List Nat), (∀ d ∈ a, d < 256) → (∀ d ∈ b, d < 256) → Lib.compareBytes (a.map fun d => UInt8.ofNat d) (b.map fun d => UInt8.ofNat d) = orderV a b
  | [], [], _, _ => rfl
  | [], _ :: _, _, _ => rfl
  | _ :: _, [], _, _ => rfl
  | x :: a, y :: b, hx, hy => by
    have ih := orderV_eq a b (fun d hd => hx d (by simp [hd])) (fun d hd => hy d (by simp [hd]))
    have h1 := hx x (by simp)
    have h2 := hy y (by simp)
    simp only [List.map_cons, Lib.compareBytes, orderV, ih]
    have e1 : (UInt8.ofNat x < UInt8.ofNat y) ↔ x < y := by
      rw [UInt8.lt_iff_toNat_lt, UInt8.toNat_ofNat', UInt8.toNat_ofNat', Nat.mod_eq_of_lt (by omega), Nat.mod_eq_of_lt (by omega)]
    have e2 : (UInt8.ofNat y < UInt8.ofNat x) ↔ y < x := by
      rw [UInt8.lt_iff_toNat_lt, UInt8.toNat_ofNat', UInt8.toNat_ofNat', Nat.mod_eq_of_lt (by omega), Nat.mod_eq_of_lt (by omega)]
    simp only [e1, e2]

theorem run_compareBytes {P : Program} {w : World} {B B' : Nat} {A A' : Option Addr} {n c m d : Nat} {xs ys : List Nat} (h : Arg w B A n c xs) (h' : Arg w B' A' m d ys) :
    (Extern.BytealgCompare.compare #[.slice A n c, .slice A' m d]).run P w = .ok (.int .i64 (orderV xs ys)) w := by
  change Sem.run P (do pure (goInt (Extern.BytealgCompare.cmp (← Extern.Bytes.bytesOf (.slice A n c)) (← Extern.Bytes.bytesOf (.slice A' m d))))) w = _
  simp only [Sem.run_bind, run_bytesOf h, run_bytesOf h', Sem.run_pure, Result.andThen]
  rw [Lib.cmp_eq, ← orderV_eq xs ys h.byte h'.byte]
  rfl

end Go.Proofs.Ytndgladfcogiiaa
