/- Contracts: the calls of a Real and of the document's machine, at any arguments. -/
import Derived.Test.YtddadlomkodgcaaMrE
import Derived.Test.YtddadlomkodgcaaOpArg
namespace Go.Proofs.Ytddadlomkodgcaa
open Go.RowKit
set_option maxRecDepth 100000
set_option linter.unusedVariables false

theorem dmnew_bad (w : World) (n : Int) (h : n < 1 ∨ 4096 < n) :
    Calls Try.prog 12 #[.int .i64 n] w fun e w' => e = .returned (.tuple #[.pointer none, .int .i64 1]) ∧ w = w' := by
  by_cases h1 : n < 1
  · clear h
    go_enter Try.func12, Try.ntmps12
    go_wp2
    go_ret2
    exact ⟨rfl, rfl⟩
  · have h2 : (4096 : Int) < n := by omega
    clear h
    go_enter Try.func12, Try.ntmps12
    go_wp2
    go_ret2
    exact ⟨rfl, rfl⟩
set_option maxHeartbeats 1600000 in
theorem dmnew_ok (w : World) (n : Nat) (h1 : 1 ≤ n) (h2 : n ≤ 4096) :
    Calls Try.prog 12 #[.int .i64 (n : Int)] w fun e w' => ∃ d dw, e = .returned (.tuple #[.pointer (some ⟨d, 0, none⟩), .int .i64 0]) ∧ w.heap.size ≤ d ∧ w.heap.size ≤ dw ∧
      DmS w' w'.heap.size d dw n (List.replicate n 0) 0 0 ∧ Below w.heap.size w w' := by
  obtain ⟨i0, hi, hz0, hz1, hz2⟩ := info_parts u64_inf
  have e1 : ¬ (n : Int) < 1 := by omega
  have e2 : ¬ (4096 : Int) < (n : Int) := by omega
  go_enter Try.func12, Try.ntmps12
  go_wp2_with (refine wpList_make_row _ rfl (.tmp 10) (.tmp 10) _ rfl 31 i0 (.int .u64 0) Try.underlying39 hi hz0 hz1 rfl .i64 .i64 n rfl rfl (by rw [hz2]; omega) (by omega) ?_)
  rw [made_eq]
  have hbw := BlkL.new w (List.replicate n (.int .u64 0)) 31
  have HBW := Lib.hid hbw
  have hsz : w.heap.size < (w.alloc (.cells (List.replicate n (.int .u64 0)).toArray 31)).heap.size := by simp
  have B1 := Lib.hid ((Below.refl w.heap.size w).alloc (Nat.le_refl _) (.cells (List.replicate n (.int .u64 0)).toArray 31))
  have hz : (w.alloc (.cells (List.replicate n (.int .u64 0)).toArray 31)).heap.size = w.heap.size + 1 := by simp
  generalize hw1 : w.alloc (.cells (List.replicate n (.int .u64 0)).toArray 31) = w1 at *
  clear hbw
  go_wp2
  go_ret2
  refine ⟨w.heap.size + 1, rfl, by omega, w.heap.size, Nat.le_refl _, ⟨⟨none, 0, [], ?_, OwnC.nil _ _ _ _⟩, ?_, by simp, by omega, by simp; omega, by simp; omega, Nat.le_refl _⟩, B1.out.alloc (by omega) _⟩
  · rw [← hz]; exact BlkL.new w1 [.slice (some ⟨w.heap.size, 0, none⟩) n n, .int .i64 0, .slice none 0 0] _
  · rw [← rep_map]; exact HBW.out.alloc _

def okWord (n : Nat) (who word : Int) : Bool := inB who 64 && inB word n
theorem okWord_nat {n : Nat} {who word : Int} (h : okWord n who word = true) : ∃ j : Nat, (j : Int) = word ∧ word.toNat = j ∧ j < n ∧ inB who 64 = true := by
  unfold okWord at h
  simp only [Bool.and_eq_true] at h
  have := inB_iff.mp h.2
  exact ⟨word.toNat, by omega, rfl, by omega, h.1⟩
def loadX (n : Nat) (ws : List Nat) (who word : Int) : Int := if okWord n who word then (ws.getD word.toNat 0 : Nat) else 0
def wordE (n : Nat) (who word : Int) : Int := if okWord n who word then 0 else 1
def swapX (n : Nat) (ws : List Nat) (who word : Int) (old : Nat) : Bool := if okWord n who word then decide (ws.getD word.toNat 0 = old) else false
def swapW (n : Nat) (ws : List Nat) (who word : Int) (old new : Nat) : List Nat := if okWord n who word then (if ws.getD word.toNat 0 = old then ws.set word.toNat new else ws) else ws
def clockX (who clk : Int) : Int := if inB who 64 then clk else 0
def clockE (who : Int) : Int := if inB who 64 then 0 else 1
def tickX (t clk : Int) : Int := if isTick t then clampV (clk + t) else 0
def tickW (t clk : Int) : Int := if isTick t then clampV (clk + t) else clk
def tickE (t : Int) : Int := if isTick t then 0 else 1
section
variable (w : World) (b bw n : Nat) (ws : List Nat) (clk : Int)
theorem noWord (h : RealS w b bw n ws clk) {who word : Int} (hb : okWord n who word = false) : NoWord w (.pointer (some ⟨b, 0, none⟩)) who word := by
  unfold okWord at hb
  rcases h1 : inB who 64 with _ | _
  · exact .inl h1
  · rw [h1] at hb
    have h2 : inB word n = false := by simpa using hb
    have := risWord_any w b (some ⟨bw, 0, none⟩) n word h.c0
    rw [h2] at this
    exact .inr this
theorem rload_all (h : RealS w b bw n ws clk) (who word : Int) :
    Calls Try.prog 39 #[.pointer (some ⟨b, 0, none⟩), .int .i64 who, .int .i64 word] w fun e w' => e = .returned (.tuple #[.int .u64 (loadX n ws who word), .int .i64 (wordE n who word)]) ∧ w = w' := by
  unfold loadX wordE
  rcases hb : okWord n who word with _ | _
  · exact rload_bad w _ who word (noWord w b bw n ws clk h hb)
  · obtain ⟨j, rfl, hj, hl, h1⟩ := okWord_nat hb
    rw [hj]
    exact rload_ok w b bw n ws clk h who j h1 hl
theorem rswap_all (h : RealS w b bw n ws clk) (who word : Int) (old new : Nat) :
    Calls Try.prog 41 #[.pointer (some ⟨b, 0, none⟩), .int .i64 who, .int .i64 word, .int .u64 (old : Int), .int .u64 (new : Int)] w fun e w' => e = .returned (.tuple #[.bool (swapX n ws who word old), .int .i64 (wordE n who word)]) ∧
      RealS w' b bw n (swapW n ws who word old new) clk ∧ Off [b, bw] w w' := by
  unfold swapX wordE swapW
  rcases hb : okWord n who word with _ | _
  · exact (rswap_bad w _ who word old new (noWord w b bw n ws clk h hb)).mono fun e w' ⟨h1, h2⟩ => by subst h2; exact ⟨h1, h, Off.refl _ _⟩
  · obtain ⟨j, rfl, hj, hl, h1⟩ := okWord_nat hb
    rw [hj]
    exact rswap_ok w b bw n ws clk h who j old new h1 hl
theorem rclock_all (h : RealS w b bw n ws clk) (who : Int) :
    Calls Try.prog 43 #[.pointer (some ⟨b, 0, none⟩), .int .i64 who] w fun e w' => e = .returned (.tuple #[.int .i64 (clockX who clk), .int .i64 (clockE who)]) ∧ w = w' := by
  unfold clockX clockE
  rcases hb : inB who 64 with _ | _
  · exact rclock_bad w _ who hb
  · exact rclock_ok w b bw n ws clk h who hb
theorem rtick_all (h : RealS w b bw n ws clk) (hc : 0 ≤ clk ∧ clk ≤ 4611686018427387903) (t : Int) :
    Calls Try.prog 45 #[.pointer (some ⟨b, 0, none⟩), .int .i64 t] w fun e w' => e = .returned (.tuple #[.int .i64 (tickX t clk), .int .i64 (tickE t)]) ∧
      RealS w' b bw n ws (tickW t clk) ∧ Off [b, bw] w w' := by
  unfold tickX tickE tickW
  rcases hb : isTick t with _ | _
  · exact (rtick_bad w _ t hb).mono fun e w' ⟨h1, h2⟩ => by subst h2; exact ⟨h1, h, Off.refl _ _⟩
  · exact rtick_ok w b bw n ws clk h t hc (isTick_iff.mp hb)
end
section
variable (w : World) (B d dw n : Nat) (ws : List Nat) (now : Int) (ln : Nat)
theorem DmS.c0 {w : World} {B d dw n : Nat} {ws : List Nat} {now : Int} {ln : Nat} (h : DmS w B d dw n ws now ln) : w.cell? ⟨d, 0, none⟩ = some (.slice (some ⟨dw, 0, none⟩) n n) := by
  obtain ⟨L, lc, cs, h1, h2⟩ := h.log
  exact h1.cell 0 _ rfl
theorem DmS.c1 {w : World} {B d dw n : Nat} {ws : List Nat} {now : Int} {ln : Nat} (h : DmS w B d dw n ws now ln) : w.cell? ⟨d, 1, none⟩ = some (.int .i64 now) := by
  obtain ⟨L, lc, cs, h1, h2⟩ := h.log
  exact h1.cell 1 _ rfl
theorem DmS.f1 {w : World} {B d dw n : Nat} {ws : List Nat} {now : Int} {ln : Nat} (h : DmS w B d dw n ws now ln) : w.frozen? ⟨d, 1, none⟩ = false := by
  obtain ⟨L, lc, cs, h1, h2⟩ := h.log
  exact h1.froz 1 (by simp)
theorem DmS.lt {w : World} {B d dw n : Nat} {ws : List Nat} {now : Int} {ln : Nat} (h : DmS w B d dw n ws now ln) : d < w.heap.size := by
  obtain ⟨L, lc, cs, h1, h2⟩ := h.log
  exact h1.lt
/-- A pointer at which no number is a word, or this one isn't. -/
def NoDWord (w : World) (p : Value) (who word : Int) : Prop := inB who 64 = false ∨ Calls Try.prog 62 #[p, .int .i64 word] w fun e w' => e = .returned (.bool false) ∧ w = w'
theorem docload_bad (p : Value) (who word : Int) (h : NoDWord w p who word) :
    Calls Try.prog 40 #[p, .int .i64 who, .int .i64 word] w fun e w' => e = .returned (.tuple #[.int .u64 0, .int .i64 1]) ∧ w = w' := by
  have HW := Lib.hid (worker_any w who)
  rcases h1 : inB who 64 with _ | _
  · rw [h1] at HW
    clear h
    go_enter Try.func40, Try.ntmps40
    go_wp2_with fail
    with_reducible refine HW.out.mono ?_
    rintro e w1 ⟨rfl, hw⟩
    subst hw
    go_wp2
    go_ret2
    exact ⟨rfl, rfl⟩
  · rw [h1] at HW
    have HP := Lib.hid (h.resolve_left (by rw [h1]; decide))
    clear h
    go_enter Try.func40, Try.ntmps40
    go_wp2_with fail
    with_reducible refine HW.out.mono ?_
    rintro e w1 ⟨rfl, hw⟩
    subst hw
    go_wp2_with fail
    with_reducible refine HP.out.mono ?_
    rintro e w1 ⟨rfl, hw⟩
    subst hw
    go_wp2
    go_ret2
    exact ⟨rfl, rfl⟩
theorem docswap_bad (p : Value) (who word old new : Int) (h : NoDWord w p who word) :
    Calls Try.prog 42 #[p, .int .i64 who, .int .i64 word, .int .u64 old, .int .u64 new] w fun e w' => e = .returned (.tuple #[.bool false, .int .i64 1]) ∧ w = w' := by
  have HW := Lib.hid (worker_any w who)
  rcases h1 : inB who 64 with _ | _
  · rw [h1] at HW
    clear h
    go_enter Try.func42, Try.ntmps42
    go_wp2_with fail
    with_reducible refine HW.out.mono ?_
    rintro e w1 ⟨rfl, hw⟩
    subst hw
    go_wp2
    go_ret2
    exact ⟨rfl, rfl⟩
  · rw [h1] at HW
    have HP := Lib.hid (h.resolve_left (by rw [h1]; decide))
    clear h
    go_enter Try.func42, Try.ntmps42
    go_wp2_with fail
    with_reducible refine HW.out.mono ?_
    rintro e w1 ⟨rfl, hw⟩
    subst hw
    go_wp2_with fail
    with_reducible refine HP.out.mono ?_
    rintro e w1 ⟨rfl, hw⟩
    subst hw
    go_wp2
    go_ret2
    exact ⟨rfl, rfl⟩
theorem noDWord (h : DmS w B d dw n ws now ln) {who word : Int} (hb : okWord n who word = false) : NoDWord w (.pointer (some ⟨d, 0, none⟩)) who word := by
  unfold okWord at hb
  rcases h1 : inB who 64 with _ | _
  · exact .inl h1
  · rw [h1] at hb
    have h2 : inB word n = false := by simpa using hb
    have := dword_any w d (some ⟨dw, 0, none⟩) n word h.c0
    rw [h2] at this
    exact .inr this
theorem docload_all (h : DmS w B d dw n ws now ln) (hln : ln ≤ 100000) (who word : Int) :
    Calls Try.prog 40 #[.pointer (some ⟨d, 0, none⟩), .int .i64 who, .int .i64 word] w fun e w' => e = .returned (.tuple #[.int .u64 (loadX n ws who word), .int .i64 (wordE n who word)]) ∧
      (∃ ln', ln' ≤ ln + 1 ∧ DmS w' B d dw n ws now ln') ∧ OffB B [d, dw] w w' := by
  unfold loadX wordE
  rcases hb : okWord n who word with _ | _
  · exact (docload_bad w _ who word (noDWord w B d dw n ws now ln h hb)).mono fun e w' ⟨h1, h2⟩ => by subst h2; exact ⟨h1, ⟨ln, by omega, h⟩, OffB.refl _ _ _⟩
  · obtain ⟨j, rfl, hj, hl, h1⟩ := okWord_nat hb
    rw [hj]
    have HW := Lib.hid (worker_any w who)
    rw [h1] at HW
    have hp := dword_any w d (some ⟨dw, 0, none⟩) n j h.c0
    rw [inB_iff.mpr (by omega)] at hp
    have HP := Lib.hid hp
    have HL := Lib.hid (dload_any w B d dw n ws now ln h hln who j hl)
    clear h hp hb
    go_enter Try.func40, Try.ntmps40
    go_wp2_with fail
    with_reducible refine HW.out.mono ?_
    rintro e w1 ⟨rfl, hw⟩
    subst hw
    go_wp2_with fail
    with_reducible refine HP.out.mono ?_
    rintro e w1 ⟨rfl, hw⟩
    subst hw
    go_wp2_with fail
    with_reducible refine HL.out.mono ?_
    rintro e w1 ⟨rfl, hd, ho⟩
    go_wp2
    go_ret2
    exact ⟨rfl, ⟨ln + 1, Nat.le_refl _, hd⟩, ho⟩
theorem docswap_all (h : DmS w B d dw n ws now ln) (hln : ln ≤ 100000) (who word : Int) (old new : Nat) :
    Calls Try.prog 42 #[.pointer (some ⟨d, 0, none⟩), .int .i64 who, .int .i64 word, .int .u64 (old : Int), .int .u64 (new : Int)] w fun e w' => e = .returned (.tuple #[.bool (swapX n ws who word old), .int .i64 (wordE n who word)]) ∧
      (∃ ln', ln' ≤ ln + 1 ∧ DmS w' B d dw n (swapW n ws who word old new) now ln') ∧ OffB B [d, dw] w w' := by
  unfold swapX wordE swapW
  rcases hb : okWord n who word with _ | _
  · exact (docswap_bad w _ who word old new (noDWord w B d dw n ws now ln h hb)).mono fun e w' ⟨h1, h2⟩ => by subst h2; exact ⟨h1, ⟨ln, by omega, h⟩, OffB.refl _ _ _⟩
  · obtain ⟨j, rfl, hj, hl, h1⟩ := okWord_nat hb
    rw [hj]
    have HW := Lib.hid (worker_any w who)
    rw [h1] at HW
    have hp := dword_any w d (some ⟨dw, 0, none⟩) n j h.c0
    rw [inB_iff.mpr (by omega)] at hp
    have HP := Lib.hid hp
    have HL := Lib.hid (dswap_any w B d dw n ws now ln h hln who j old new hl)
    clear h hp hb
    show Calls _ _ _ w fun e w' => e = .returned (.tuple #[.bool (decide (ws.getD j 0 = old)), .int .i64 0]) ∧ (∃ ln', ln' ≤ ln + 1 ∧ DmS w' B d dw n (if ws.getD j 0 = old then ws.set j new else ws) now ln') ∧ OffB B [d, dw] w w'
    generalize (if ws.getD j 0 = old then ws.set j new else ws) = ws2 at *
    generalize decide (ws.getD j 0 = old) = dd at *
    go_enter Try.func42, Try.ntmps42
    go_wp2_with fail
    with_reducible refine HW.out.mono ?_
    rintro e w1 ⟨rfl, hw⟩
    subst hw
    go_wp2_with fail
    with_reducible refine HP.out.mono ?_
    rintro e w1 ⟨rfl, hw⟩
    subst hw
    go_wp2_with fail
    with_reducible refine HL.out.mono ?_
    rintro e w1 ⟨rfl, hd, ho⟩
    go_wp2
    go_ret2
    exact ⟨rfl, ⟨ln + 1, Nat.le_refl _, hd⟩, ho⟩
theorem docclock_bad (p : Value) (who : Int) (h1 : inB who 64 = false) :
    Calls Try.prog 44 #[p, .int .i64 who] w fun e w' => e = .returned (.tuple #[.int .i64 0, .int .i64 1]) ∧ w = w' := by
  have HW := Lib.hid (worker_any w who)
  rw [h1] at HW
  clear h1
  go_enter Try.func44, Try.ntmps44
  go_wp2_with fail
  with_reducible refine HW.out.mono ?_
  rintro e w1 ⟨rfl, hw⟩
  subst hw
  go_wp2
  go_ret2
  exact ⟨rfl, rfl⟩
theorem docclock_nil (who : Int) (h1 : inB who 64 = true) :
    Calls Try.prog 44 #[.pointer none, .int .i64 who] w fun e w' => e = .returned (.tuple #[.int .i64 0, .int .i64 7]) ∧ w = w' := by
  have HW := Lib.hid (worker_any w who)
  rw [h1] at HW
  clear h1
  go_enter Try.func44, Try.ntmps44
  go_wp2_with fail
  with_reducible refine HW.out.mono ?_
  rintro e w1 ⟨rfl, hw⟩
  subst hw
  go_wp2
  go_ret2
  exact ⟨rfl, rfl⟩
theorem doctick_bad (p : Value) (t : Int) (h1 : isTick t = false) :
    Calls Try.prog 46 #[p, .int .i64 t] w fun e w' => e = .returned (.tuple #[.int .i64 0, .int .i64 1]) ∧ w = w' := by
  have HF := Lib.hid (rform_any w t)
  rw [h1] at HF
  clear h1
  go_enter Try.func46, Try.ntmps46
  go_wp2_with fail
  with_reducible refine HF.out.mono ?_
  rintro e w1 ⟨rfl, hw⟩
  subst hw
  go_wp2
  go_ret2
  exact ⟨rfl, rfl⟩
theorem doctick_nil (t : Int) (h1 : isTick t = true) :
    Calls Try.prog 46 #[.pointer none, .int .i64 t] w fun e w' => e = .returned (.tuple #[.int .i64 0, .int .i64 7]) ∧ w = w' := by
  have HF := Lib.hid (rform_any w t)
  rw [h1] at HF
  clear h1
  go_enter Try.func46, Try.ntmps46
  go_wp2_with fail
  with_reducible refine HF.out.mono ?_
  rintro e w1 ⟨rfl, hw⟩
  subst hw
  go_wp2
  go_ret2
  exact ⟨rfl, rfl⟩
theorem docclock_all (h : DmS w B d dw n ws now ln) (hln : ln ≤ 100000) (hn : 0 ≤ now ∧ now ≤ 4611686018427387903) (who : Int) :
    Calls Try.prog 44 #[.pointer (some ⟨d, 0, none⟩), .int .i64 who] w fun e w' => e = .returned (.tuple #[.int .i64 (clockX who now), .int .i64 (clockE who)]) ∧
      (∃ ln', ln' ≤ ln + 1 ∧ DmS w' B d dw n ws now ln') ∧ OffB B [d, dw] w w' := by
  unfold clockX clockE
  rcases hb : inB who 64 with _ | _
  · exact (docclock_bad w _ who hb).mono fun e w' ⟨h1, h2⟩ => by subst h2; exact ⟨h1, ⟨ln, by omega, h⟩, OffB.refl _ _ _⟩
  · have HW := Lib.hid (worker_any w who)
    rw [hb] at HW
    have HL := Lib.hid (dclock_any w B d dw n ws now ln h hln who hn.1 hn.2)
    clear h hb
    go_enter Try.func44, Try.ntmps44
    go_wp2_with fail
    with_reducible refine HW.out.mono ?_
    rintro e w1 ⟨rfl, hw⟩
    subst hw
    go_wp2_with fail
    with_reducible refine HL.out.mono ?_
    rintro e w1 ⟨rfl, hd, ho⟩
    go_wp2
    go_ret2
    exact ⟨rfl, ⟨ln + 1, Nat.le_refl _, hd⟩, ho⟩
theorem doctick_all (h : DmS w B d dw n ws now ln) (hn : 0 ≤ now ∧ now ≤ 4611686018427387903) (t : Int) :
    Calls Try.prog 46 #[.pointer (some ⟨d, 0, none⟩), .int .i64 t] w fun e w' => e = .returned (.tuple #[.int .i64 (tickX t now), .int .i64 (tickE t)]) ∧
      (∃ ln', ln' ≤ ln + 1 ∧ DmS w' B d dw n ws (tickW t now) ln') ∧ OffB B [d, dw] w w' := by
  unfold tickX tickE tickW
  rcases hb : isTick t with _ | _
  · exact (doctick_bad w _ t hb).mono fun e w' ⟨h1, h2⟩ => by subst h2; exact ⟨h1, ⟨ln, by omega, h⟩, OffB.refl _ _ _⟩
  · obtain ⟨ht0, ht1⟩ := isTick_iff.mp hb
    have HF := Lib.hid (rform_any w t)
    rw [hb] at HF
    obtain ⟨tn, rfl⟩ := Int.eq_ofNat_of_zero_le ht0
    obtain ⟨nn, rfl⟩ := Int.eq_ofNat_of_zero_le hn.1
    have HA := Lib.hid (radd_ok w nn tn (by omega) (by omega))
    have c1 := h.c1
    have g1 := h.f1
    have hlt := h.lt
    have HH := Lib.hid h
    have hBs := h.hB
    clear h hb
    show Calls _ _ _ w fun e w' => e = .returned (.tuple #[.int .i64 (clampV ((nn : Int) + (tn : Int))), .int .i64 0]) ∧ (∃ ln', ln' ≤ ln + 1 ∧ DmS w' B d dw n ws (clampV ((nn : Int) + (tn : Int))) ln') ∧ OffB B [d, dw] w w'
    generalize clampV ((nn : Int) + (tn : Int)) = cl at *
    go_enter Try.func46, Try.ntmps46
    go_wp2_with fail
    with_reducible refine HF.out.mono ?_
    rintro e w1 ⟨rfl, hw⟩
    subst hw
    go_wp2_with fail
    with_reducible refine HA.out.mono ?_
    rintro e w1 ⟨rfl, hb1⟩
    have hd1 := HH.out.off (S := []) (Off.of_below hb1) (by simp) (by simp) (by simp)
    have d1 := hd1.c1
    have e1 := hd1.f1
    have l1 := hd1.lt
    have HD1 := Lib.hid hd1
    have HB1 := Lib.hid (hb1.mono hBs)
    clear hb1 hd1 c1 g1 hlt
    go_wp2
    go_ret2
    exact ⟨rfl, ⟨ln, by omega, HD1.out.setNow cl⟩, (OffB.of_below HB1.out).setCell (by simp) _⟩
end
end Go.Proofs.Ytddadlomkodgcaa
