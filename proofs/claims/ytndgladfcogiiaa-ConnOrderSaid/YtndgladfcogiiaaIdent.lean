/- Contracts: Ident and Parts, by the program and by the document. -/
import Derived.Test.YtndgladfcogiiaaBytes
namespace Go.Proofs.Ytndgladfcogiiaa
open Go.RowKit
set_option maxRecDepth 100000

theorem ret_si {A : Option Addr} {n c : Nat} {k : IntKind} {a b : Int} (h : a = b) : Ending.returned (.tuple #[.slice A n c, .int k a]) = .returned (.tuple #[.slice A n c, .int k b]) := by rw [h]

def NoId (w : World) (x : Int) (e : Ending) (w' : World) : Prop := e = .returned (.tuple #[.slice none 0 0, .int .i64 x]) ∧ w = w'

set_option maxHeartbeats 400000 in
theorem ident_arg (w : World) (p : Int) (A : Option Addr) (n c : Nat) (hp : p < 0 ∨ 32 ≤ p) :
    Calls Try.prog 125 #[.int .i64 p, .slice A n c] w (NoId w 1) := by
  rcases hp with hp | hp
  · go_enter Try.func125, Try.ntmps125
    go_wp2
    go_ret2
    exact ⟨rfl, rfl⟩
  · go_enter Try.func125, Try.ntmps125
    go_wp2
    go_ret2
    exact ⟨rfl, rfl⟩

set_option maxHeartbeats 400000 in
theorem ident_long (w : World) (p : Int) (A : Option Addr) (n c : Nat) (hp0 : 0 ≤ p) (hp : p < 32) (hn : 255 < n) :
    Calls Try.prog 125 #[.int .i64 p, .slice A n c] w (NoId w 2) := by
  go_enter Try.func125, Try.ntmps125
  go_wp2
  go_ret2
  exact ⟨rfl, rfl⟩

/-- A new slice of bytes and OK. -/
def IdEnd (w : World) (zs : List Nat) (n : Nat) (e : Ending) (w' : World) : Prop :=
  ∃ A c, e = .returned (.tuple #[.slice A n c, .int .i64 0]) ∧ OwnB w' w.heap.size A n c zs ∧ Below w.heap.size w w'

theorem made_block {w1 : World} {g n : Nat} (h : w1.ownsRow g 5 1 (.slice (some ⟨g, 0, none⟩) n n) n (madeCells #[.int .u8 0] n).toList) : w1.heap[g]? = some (.cells ((List.replicate n 0).map V8).toArray 5 (0, 0)) := by
  rw [toList_madeCells_one] at h
  rcases h.2 with ⟨h1, h2⟩ | ⟨g', cap, cur, h1, h2, h3, h4, h5, h6, h7⟩
  · simp at h1
  · simp only [Value.slice.injEq, Option.some.injEq, Addr.mk.injEq, and_true, true_and] at h1
    obtain ⟨rfl, rfl⟩ := h1
    rw [List.take_of_length_le (by rw [Array.length_toList]; omega)] at h7
    rw [h3, List.map_replicate, show V8 0 = .int .u8 0 from rfl, ← h7]

theorem block_set {w : World} {g : Nat} {xs : List Nat} (h : w.heap[g]? = some (.cells (xs.map V8).toArray 5 (0, 0))) (k v : Nat) :
    (w.setCell ⟨g, k, none⟩ (V8 v)).heap[g]? = some (.cells ((xs.set k v).map V8).toArray 5 (0, 0)) := by
  rw [heap_setCell_same w g k _ _ _ h]
  simp

theorem block_cell {w : World} {g : Nat} {xs : List Nat} (h : w.heap[g]? = some (.cells (xs.map V8).toArray 5 (0, 0))) (k : Nat) (hk : k < xs.length) : w.cell? ⟨g, k, none⟩ = some (V8 (xs.getD k 0)) := by
  rw [cell_of_row w g k _ _ _ h]
  simp [List.getD_eq_getElem?_getD, hk]

theorem splice_map (xs zs : List Nat) (off : Nat) : splice (xs.map V8) off (zs.map V8) = (splice xs off zs).map V8 := by
  simp [splice]

theorem ident_fin {w2 : World} {g p n : Nat} {zs : List Nat} (hl : zs.length = n) (hby : ∀ d ∈ zs, d < 256) (hp : p < 32) (hn : n ≤ 255)
    (h : w2.heap[g]? = some (.cells (splice (((List.replicate (n + 1) 0).set 0 p).map V8) 1 (zs.map V8)).toArray 5 (0, 0))) : OwnB w2 g (some ⟨g, 0, none⟩) (n + 1) (n + 1) (p :: zs) := by
  have e : splice ((List.replicate (n + 1) 0).set 0 p) 1 zs = p :: zs := by
    unfold splice
    simp [List.replicate_succ, hl]
    omega
  rw [splice_map, e] at h
  refine OwnB.of_block h (Nat.le_refl _) (by simp [hl]) (by unfold maxLen; omega) (fun d hd => ?_)
  rcases List.mem_cons.1 hd with rfl | hd
  · omega
  · exact hby d hd

set_option maxHeartbeats 800000 in
theorem ident_nil (w : World) (B : Nat) (A : Option Addr) (p c : Nat) (zs : List Nat) (h : Arg w B A 0 c zs) (hB : B ≤ w.heap.size) (hp : p < 32) :
    Calls Try.prog 125 #[.int .i64 (p : Int), .slice A 0 c] w (IdEnd w (p :: zs) (0 + 1)) := by
  obtain ⟨i0, hi, hz0, hz1, hz2⟩ := info_parts u8_info
  have HA := Lib.hid (h.more hB)
  have hlen := Lib.hid h.len
  have hby := Lib.hid h.byte
  clear h
  go_enter Try.func125, Try.ntmps125
  go_wp2_with (refine wpList_make_full _ rfl (.tmp 18) (.tmp 18) _ rfl w.heap.size 5 i0 (.int .u8 0) 1 Try.underlying22 hi hz0 hz1 .i64 .i64 _ _ (0 + 1) rfl rfl (by omega) (by omega) (by rw [hz2]; omega) (by unfold maxLen; omega) (Nat.le_refl _) ?_)
  intro w1 hown1 hgrow1
  have hblk := made_block hown1
  have hb1 : Below w.heap.size w w1 := (Below.refl _ _).grown hgrow1 (Nat.le_refl _) (by simp)
  have hc0 := block_cell hblk 0 (by simp)
  have hf0 := hown1.frozenAt 0
  have hset := block_set hblk 0 p
  have HBLK := Lib.hid hset
  have hbs := hb1.setCell (p := ⟨w.heap.size, 0, none⟩) (Nat.le_refl _) (V8 p)
  have HBS := Lib.hid hbs
  have HCS := Lib.hid (HA.out.below hbs)
  clear hblk hb1 hset hown1 hgrow1 hbs
  go_wp2_with (refine wpList_copy_splice rfl (.tmp 25) (.tmp 26) 22 22 rfl 5 Try.underlying22 u8_size _ _ 0 0 0 c rfl rfl w.heap.size 1 (((List.replicate (0 + 1) 0).set 0 p).map V8) 5 HBLK.out (zs.map V8) (by simp [hlen.out]) (fun hh => absurd hh (by simp [hlen.out])) (by simp [hlen.out]; try omega) (bytes_oneCell zs) w.heap.size w HBS.out (Nat.le_refl _) ?_)
  intro w2 HG2 hB2
  have HB2 := Lib.hid hB2
  have HO := Lib.hid (ident_fin hlen.out hby.out hp (by omega) (by simpa using HG2.out))
  clear hB2 HG2
  go_wp2
  go_ret2
  exact ⟨_, _, rfl, HO.out, HB2.out⟩

set_option maxHeartbeats 800000 in
theorem ident_pos (w : World) (B : Nat) (A : Option Addr) (p n c : Nat) (zs : List Nat) (h : Arg w B A n c zs) (hB : B ≤ w.heap.size) (hp : p < 32) (hn1 : 1 ≤ n) (hn : n ≤ 255) :
    Calls Try.prog 125 #[.int .i64 (p : Int), .slice A n c] w (IdEnd w (p :: zs) (n + 1)) := by
  obtain ⟨i0, hi, hz0, hz1, hz2⟩ := info_parts u8_info
  have HA := Lib.hid (h.more hB)
  have hlen := Lib.hid h.len
  have hby := Lib.hid h.byte
  clear h
  obtain ⟨b, off, rfl, _, _⟩ := HA.out.at_ (by omega)
  go_enter Try.func125, Try.ntmps125
  go_wp2_with (refine wpList_make_full _ rfl (.tmp 18) (.tmp 18) _ rfl w.heap.size 5 i0 (.int .u8 0) 1 Try.underlying22 hi hz0 hz1 .i64 .i64 _ _ (n + 1) rfl rfl (by omega) (by omega) (by rw [hz2]; omega) (by unfold maxLen; omega) (Nat.le_refl _) ?_)
  intro w1 hown1 hgrow1
  have hblk := made_block hown1
  have hb1 : Below w.heap.size w w1 := (Below.refl _ _).grown hgrow1 (Nat.le_refl _) (by simp)
  have hc0 := block_cell hblk 0 (by simp)
  have hf0 := hown1.frozenAt 0
  have hset := block_set hblk 0 p
  have HBLK := Lib.hid hset
  have hbs := hb1.setCell (p := ⟨w.heap.size, 0, none⟩) (Nat.le_refl _) (V8 p)
  have HBS := Lib.hid hbs
  have HCS := Lib.hid (HA.out.below hbs)
  clear hblk hb1 hset hown1 hgrow1 hbs
  go_wp2_with (refine wpList_copy_splice rfl (.tmp 25) (.tmp 26) 22 22 rfl 5 Try.underlying22 u8_size _ _ n n n c rfl rfl w.heap.size 1 (((List.replicate (n + 1) 0).set 0 p).map V8) 5 HBLK.out (zs.map V8) (by simp [hlen.out]) (fun _ => ⟨rfl, _, rfl, HCS.out.cells⟩) (by simp [hlen.out]; try omega) (bytes_oneCell zs) w.heap.size w HBS.out (Nat.le_refl _) ?_)
  intro w2 HG2 hB2
  have HB2 := Lib.hid hB2
  have HO := Lib.hid (ident_fin hlen.out hby.out hp (by omega) (by simpa using HG2.out))
  clear hB2 HG2
  go_wp2
  go_ret2
  exact ⟨_, _, rfl, HO.out, HB2.out⟩

theorem ident_ok (w : World) (B : Nat) (A : Option Addr) (p n c : Nat) (zs : List Nat) (h : Arg w B A n c zs) (hB : B ≤ w.heap.size) (hp : p < 32) (hn : n ≤ 255) :
    Calls Try.prog 125 #[.int .i64 (p : Int), .slice A n c] w (IdEnd w (p :: zs) (n + 1)) := by
  rcases Nat.eq_zero_or_pos n with h0 | h0
  · subst h0
    exact ident_nil w B A p c zs h hB hp
  · exact ident_pos w B A p n c zs h hB hp h0 hn

/-- The document's Ident: the loop's relation. -/
def RidInv (w : World) (p : Nat) (zs : List Nat) (n : Nat) (cv kv : Value) (wr : World) : Prop :=
  ∃ (k c : Nat) (A : Option Addr), kv = .int .i64 (k : Int) ∧ cv = .slice A (k + 1) c ∧ OwnB wr w.heap.size A (k + 1) c (p :: zs.take k) ∧ Below w.heap.size w wr ∧ k ≤ n

end Go.Proofs.Ytndgladfcogiiaa
