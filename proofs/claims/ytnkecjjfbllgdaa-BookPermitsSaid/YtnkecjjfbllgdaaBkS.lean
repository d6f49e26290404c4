/- Do of a book in memory. -/
import Derived.Test.YtnkecjjfbllgdaaBkK
import Derived.Test.YtnkecjjfbllgdaaBkN
import Derived.Test.YtnkecjjfbllgdaaBkO
import Derived.Test.YtnkecjjfbllgdaaBkR
namespace Go.Proofs.Ytnkecjjfbllgdaa
open Go.RowKit Go.Maps
set_option maxRecDepth 100000
set_option linter.unusedVariables false

theorem conv_any {w : World} {B n c : Nat} {A : Option Addr} {zs : List Nat} (h : OwnB w B A n c zs) :
    (convert 23 9 (.slice A n c)).run Try.prog w = .ok (.string (bytesArr zs)) w := by
  have e : strOfNums (zs.map Int.ofNat) = bytesArr zs := by
    unfold strOfNums bytesArr
    rw [List.map_map]
    congr 2
  have hl := h.len
  rcases h.1.2 with ⟨h1, h2⟩ | ⟨g, cap, cur, h1, _⟩
  · simp only [Value.slice.injEq] at h1
    obtain ⟨rfl, _, rfl⟩ := h1
    obtain rfl : zs = [] := List.eq_nil_of_length_eq_zero (by omega)
    exact run_convert_bytes_nil w 23 5 Try.underlying23 Try.underlying5 n 0 9 Try.underlying9
  · simp only [Value.slice.injEq, true_and] at h1
    obtain ⟨rfl, rfl⟩ := h1
    have ha := h.arg
    rw [← e]
    refine run_convert_bytes_arg w 23 5 Try.underlying23 Try.underlying5 g 0 n c _ (by simp [hl]) (fun i hi => ?_) 9 Try.underlying9
    obtain ⟨b, off, e2, _, hc⟩ := ha.at_ (by omega)
    simp only [Option.some.injEq, Addr.mk.injEq, and_true] at e2
    obtain ⟨rfl, rfl⟩ := e2
    rw [hc i hi]
    simp [List.getD_eq_getElem?_getD, hl, hi]

theorem own_uniq {w : World} {mb k k' : Nat} {D D' : DataW Value} (h : w.ownsMap Try.prog 9 RV mb k D) (h' : w.ownsMap Try.prog 9 RV mb k' D') : D = D' := by
  obtain ⟨es, ck, e1, _, _, e2⟩ := h
  obtain ⟨es', ck', e1', _, _, e2'⟩ := h'
  rw [e1] at e1'
  cases e1'
  rw [e2, e2']
/-- A book in memory, k cells. -/
structure BkX (w : World) (b : Nat) (A : Option Addr) (n c : Nat) (l : List PolM) (room mb k : Nat) (M : BkMap) : Prop where
  r : BkR w b A n c l room mb k M
  e : ∃ D, w.ownsMap Try.prog 9 RV mb (Maps.size D) D ∧ Maps.size D = k
section
variable {w w' : World} {b n c room mb k : Nat} {A : Option Addr} {l : List PolM} {M : BkMap}
theorem BkX.lt (h : BkX w b A n c l room mb k M) : mb < w.heap.size := by
  obtain ⟨D, h1, h2⟩ := h.e
  exact h1.lt
theorem BkX.below (h : BkX w b A n c l room mb k M) (hb : Below w.heap.size w w') : BkX w' b A n c l room mb k M := by
  refine ⟨h.r.below hb, ?_⟩
  obtain ⟨D, h1, h2⟩ := h.e
  have hlt := h1.lt
  obtain ⟨es, ck, hmb, r⟩ := h1
  exact ⟨D, ⟨es, ck, (hb.block mb hlt).trans hmb, r⟩, h2⟩
theorem BkX.other (h : BkX w b A n c l room mb k M) {m2 ck : Nat} {es : Array MapEntry} (hm : w.heap[m2]? = some (.map es ck)) (hne : mb ≠ m2) (ho : Off [m2] w w') : BkX w' b A n c l room mb k M := by
  refine ⟨h.r.other hm hne ho, ?_⟩
  obtain ⟨D, h1, h2⟩ := h.e
  have hlt := h1.lt
  obtain ⟨es', ck', hmb, r⟩ := h1
  exact ⟨D, ⟨es', ck', (ho.block mb hlt (by simpa using hne)).trans hmb, r⟩, h2⟩
end
def getB (M : BkMap) (z : List Nat) : CelM := (M z).getD CelM.zero
section
variable {w W : World} {mb k : Nat} {D : DataW Value} {M : BkMap} {z : List Nat}
theorem own_below (h : w.ownsMap Try.prog 9 RV mb k D) (hb : Below w.heap.size w W) : W.ownsMap Try.prog 9 RV mb k D := by
  have hlt := h.lt
  obtain ⟨es, ck, hmb, r⟩ := h
  exact ⟨es, ck, (hb.block mb hlt).trans hmb, r⟩
theorem look_any (h : w.ownsMap Try.prog 9 RV mb k D) (hM : MapR w D M) (hz : ∀ d ∈ z, d < 256) (hl : z.length ≤ 1000) :
    ∃ Ac mc kc, ArgI w w.heap.size Ac mc kc (getB M z).held ∧ Shp Ac kc ∧ ∀ W, Below w.heap.size w W →
      (Instr.lookup 69 (.map (some mb)) (.string (bytesArr z)) true).run Try.prog W = .ok (.tuple #[celV (getB M z) Ac mc kc, .bool (M z).isSome]) W := by
  have key := fun W (hb : Below w.heap.size w W) => (own_below h hb).look_ok keyed Try.underlying69 (zeroCell W) (zd := .held (.agg #[.int .i64 0, .slice none 0 0])) (zp := []) rfl (key_of hl)
  rcases hm : M z with _ | cc
  · have hno := hM.no z hz hm
    refine ⟨none, 0, 0, by unfold getB; rw [hm]; exact ArgI.nil _ _, .inl ⟨rfl, rfl⟩, fun W hb => ?_⟩
    obtain ⟨v, ps, hr, hv⟩ := key W hb
    rw [atKey_of_not_has hno] at hv
    simp only [RV, Option.some.injEq, Prod.mk.injEq, DataW.held.injEq] at hv
    rw [hr, hv.1, hno]
    unfold getB
    rw [hm]
    rfl
  · obtain ⟨h1, A, n, kk, h2, h3, h4⟩ := hM.yes z cc hm
    refine ⟨A, n, kk, by unfold getB; rw [hm]; exact h3, h4, fun W hb => ?_⟩
    obtain ⟨v, ps, hr, hv⟩ := key W hb
    rw [h2] at hv
    simp only [RV, Option.some.injEq, Prod.mk.injEq, DataW.held.injEq] at hv
    rw [hr, hv.1, h1]
    unfold getB
    rw [hm]
    rfl
end

def afterB (M : BkMap) (z : List Nat) (o : OutM) : BkMap := if o.2.2 = true then putB M z o.2.1 else M
def sizeB (M : BkMap) (z : List Nat) (o : OutM) (k : Nat) : Nat := if o.2.2 = true ∧ (M z).isSome = false then k + 1 else k

theorem book_do (w : World) (b n c room mb k op p kn kc now : Nat) (A KA : Option Addr) (l : List PolM) (M : BkMap) (N s : Int) (zs : List Nat)
    (hX : BkX w b A n c l room mb k M) (ho : 1 ≤ op ∧ op ≤ 4) (hp : p < l.length) (hkd : kindB op (l.getD p noPol).kind = true) (hkey : Arg w w.heap.size KA kn kc zs) (hkn : kn ≤ 255)
    (hN : op = 1 → isTick N = true) (hnow : now ≤ 4611686018427387903) (hs : op = 2 → 1 ≤ s ∧ s ≤ 4611686018427387903) (hk : k ≤ 1000000) (hk2 : (M (p :: zs)).isSome = true ∨ k < room) :
    Calls Try.prog 18 #[.pointer (some ⟨b, 0, none⟩), .agg #[.int .u8 (op : Nat), .int .i64 (p : Nat), .slice KA kn kc, .int .i64 N], .int .i64 (now : Nat), .int .i64 s] w
      fun e w' => e = .returned (repV (cellM (l.getD p noPol) (getB M (p :: zs)) op N now s).1) ∧
        BkX w' b A n c l room mb (sizeB M (p :: zs) (cellM (l.getD p noPol) (getB M (p :: zs)) op N now s) k) (afterB M (p :: zs) (cellM (l.getD p noPol) (getB M (p :: zs)) op N now s)) ∧ Off [mb] w w' := by
  have h := hX.r
  obtain ⟨D, hown, _, hM⟩ := h.map
  have hsz : Maps.size D = k := by
    obtain ⟨D', h1, h2⟩ := hX.e
    rw [own_uniq hown h1]
    exact h2
  have hlen := h.len
  have hkl := hkey.len
  have hroom := h.room
  have hz : ∀ d ∈ p :: zs, d < 256 := fun d hd => by
    rcases List.mem_cons.1 hd with rfl | hd
    · omega
    · exact hkey.byte d hd
  have hzl : (p :: zs).length ≤ 1000 := by simp; omega
  have hln : l.length = n := by have := h.pol.len; rw [FP_len] at this; omega
  have hok : (l.getD p noPol).ok := by
    refine polB_ok.1 (List.all_eq_true.1 h.okp _ ?_)
    rw [List.getD_eq_getElem?_getD, List.getElem?_eq_getElem hp]
    exact List.getElem_mem hp
  have hcok : (getB M (p :: zs)).ok (l.getD p noPol) := by
    unfold getB
    rcases hm : M (p :: zs) with _ | cc
    · exact CelM.zero_ok hok
    · obtain ⟨p', zs', e, _, _, _, h6⟩ := h.inf _ _ hm
      simp only [List.cons.injEq] at e
      rw [← e.1] at h6
      exact h6
  obtain ⟨Ac, mc, kcc, hA, hsh, hlk⟩ := look_any hown hM hz hzl
  obtain ⟨pb, poff, rfl, hpb, hpc⟩ := h.pol.at_ (by omega)
  have hpc' := fun j (hj : j < 4) => (hpc (p * 4 + j) (by omega)).trans (FP_at l p j hp hj)
  have HI := fun W (hW : Below w.heap.size w W) => (ident_ok W w.heap.size KA p kn kc zs (hkey.below hW) hW.size (by omega) hkn)
  have hcon := cellM_ok (op := op) (now := now) (n := N) (s := s) hok hcok hkd hnow
  have HD := fun W (hW : Below w.heap.size w W) => cellDo_any W (l.getD p noPol) (getB M (p :: zs)) op now (p : Int) N s Ac KA mc kcc kn kc hok hcok ho hkd hN hnow ((hA.below hW).more hW.size) hsh
  generalize hoo : cellM (l.getD p noPol) (getB M (p :: zs)) op N now s = o at HD hcon ⊢
  obtain ⟨⟨r0, r1, r2, r3, r4, r5⟩, ⟨t', xs⟩, ch⟩ := o
  have q5 : ((op : Int) == 5) = false := beq_eq_false_iff_ne.2 (by omega)
  have q6 : ((op : Int) == 6) = false := beq_eq_false_iff_ne.2 (by omega)
  have HC : ∀ W, Below w.heap.size w W → Calls Try.prog 33 #[.pointer (some ⟨b, 0, none⟩), .agg #[.int .u8 (op : Nat), .int .i64 (p : Nat), .slice KA kn kc, .int .i64 N], .int .i64 (now : Nat), .int .i64 s] W fun e w' => e = .returned (.int .i64 0) ∧ Below W.heap.size W w' := fun W hW => by
    have hc0 : chkC l op (p : Int) kn N = 0 := by
      unfold chkC
      rw [if_neg (by omega), if_neg (by omega), if_neg (by rintro ⟨e, e2⟩; rw [hN e] at e2; cases e2), if_neg (by omega), if_neg]
      rintro (e | e | e)
      · omega
      · omega
      · rw [Int.toNat_natCast, hkd] at e; cases e
    have hT : isTick (now : Int) = true := isTick_iff.2 (by omega)
    refine bcheck_ok W b n c op kn kc _ KA (p : Int) N (now : Nat) s 0 room mb (h.blk.below hW) (Lib.hid fun W => by rw [← hT]; exact bTick_any W _) (fun e2 => Lib.hid fun W => ?_) (Lib.hid fun W2 h2 => ?_)
    · have := bSerial_any W s
      rw [decide_eq_true (hs e2).1, decide_eq_true (hs e2).2] at this
      exact this
    · have := checkCall_any W2 w.heap.size _ KA n c kn kc op l (p : Int) N (h.pol.below (hW.trans (h2.mono hW.size))) (hW.trans (h2.mono hW.size)).size
      rw [hc0] at this
      exact this
  have hq3 : (0 : Int) ≤ (p : Int) := by omega
  have hq4 : (p : Int) < (n : Int) := by omega
  have hpn : p < n := by omega
  have HIh : ∀ W, Below w.heap.size w W → Hid (∀ W1, Below W.heap.size W W1 → Calls Try.prog 53 #[.int .i64 (p : Nat), .slice KA kn kc] W1 fun e w' => ∃ A c, e = .returned (.tuple #[.slice A (kn + 1) c, .int .i64 0]) ∧ (convert 23 9 (.slice A (kn + 1) c)).run Try.prog w' = .ok (.string (bytesArr (p :: zs))) w' ∧ Below W1.heap.size W1 w') := fun W hW => Lib.hid fun W1 h1 => by
    refine (HI W1 (hW.trans (h1.mono hW.size))).mono ?_
    rintro e w' ⟨Ai, ci, e1, e2, e3⟩
    exact ⟨Ai, ci, e1, conv_any e2, e3⟩
  have hb2 : b ≠ mb := by
    obtain ⟨es, ck, hm⟩ := own_map hown
    exact cell_ne_map (p := ⟨b, 0, none⟩) (h.blk.cell 0 _ rfl) hm
  rcases ch with _ | _
  · -- nothing is put
    have e1 : afterB M (p :: zs) (⟨r0, r1, r2, r3, r4, r5⟩, ⟨t', xs⟩, false) = M := by unfold afterB; rw [if_neg (by simp)]
    have e2 : sizeB M (p :: zs) (⟨r0, r1, r2, r3, r4, r5⟩, ⟨t', xs⟩, false) k = k := by unfold sizeB; rw [if_neg (by simp)]
    rw [e1, e2]
    refine (bDo_no w b op kn kc KA (p : Int) N (now : Nat) s r0 r2 r3 r4 r5 r1 q5 q6 (Lib.hid HC) (Lib.hid fun W hW => ?_)).mono fun e w' ⟨he, hb⟩ => ⟨he, hX.below hb, Off.of_below hb⟩
    exact bdo_no W b pb poff n c room mb kn kc p mc kcc op (l.getD p noPol).kind KA Ac N (now : Nat) s (l.getD p noPol).T (l.getD p noPol).Tau (l.getD p noPol).perm ((getB M (p :: zs)).tat : Nat) r0 r2 r3 r4 r5 (t' : Nat) r1 (M (p :: zs)).isSome xs (bytesArr (p :: zs))
      (h.blk.below hW) (Nat.lt_of_lt_of_le hown.lt hW.size) (Nat.lt_of_lt_of_le hpb hW.size)
      ((hW.cell (p := ⟨pb, poff + p * 4, none⟩) hpb).trans (hpc' 0 (by omega))) ((hW.cell (p := ⟨pb, poff + p * 4 + 1, none⟩) hpb).trans (hpc' 1 (by omega))) ((hW.cell (p := ⟨pb, poff + p * 4 + 2, none⟩) hpb).trans (hpc' 2 (by omega))) ((hW.cell (p := ⟨pb, poff + p * 4 + 3, none⟩) hpb).trans (hpc' 3 (by omega)))
      hq3 hq4 hpn (HIh W hW) (Lib.hid fun W1 h1 => hlk W1 (hW.trans (h1.mono hW.size))) (Lib.hid fun W1 h1 => HD W1 (hW.trans (h1.mono hW.size)))
  · have e1 : afterB M (p :: zs) (⟨r0, r1, r2, r3, r4, r5⟩, ⟨t', xs⟩, true) = putB M (p :: zs) ⟨t', xs⟩ := by unfold afterB; rw [if_pos rfl]
    rw [e1]
    have hstore := fun W v (hW : Below w.heap.size w W) => (own_below hown hW).store (t := 69) (e := 83) keyed Try.underlying69 (by unfold maxLen; omega) (key := .string (bytesArr (p :: zs))) (val := v) (d := .held v) (ps := []) (key_of hzl) rfl
    refine (bDo_put w b op kn kc KA (p : Int) N (now : Nat) s r0 r2 r3 r4 r5 r1 q5 q6 (Lib.hid HC) mb (t' : Nat) xs hown.lt
      (fun v W => W.ownsMap Try.prog 9 RV mb (Maps.size D + 1) (D.put (keyL (p :: zs)) (.held v))) (fun v W a u hne hh => hh.setCell (Ne.symm hne) u) (Lib.hid fun W hW => ?_)).mono ?_
    · have hargs := And.intro (h.blk.below hW) (And.intro (Nat.lt_of_lt_of_le hown.lt hW.size) (Nat.lt_of_lt_of_le hpb hW.size))
      have hp0 := (hW.cell (p := ⟨pb, poff + p * 4, none⟩) hpb).trans (hpc' 0 (by omega))
      have hp1 := (hW.cell (p := ⟨pb, poff + p * 4 + 1, none⟩) hpb).trans (hpc' 1 (by omega))
      have hp2 := (hW.cell (p := ⟨pb, poff + p * 4 + 2, none⟩) hpb).trans (hpc' 2 (by omega))
      have hp3 := (hW.cell (p := ⟨pb, poff + p * 4 + 3, none⟩) hpb).trans (hpc' 3 (by omega))
      have HU : Hid (∀ W1 v, Below W.heap.size W W1 → ∃ W', (Instr.mapUpdate 69 (.map (some mb)) (.string (bytesArr (p :: zs))) v).run Try.prog W1 = .ok () W' ∧ W1.mapTurned W' mb ∧ W'.ownsMap Try.prog 9 RV mb (Maps.size D + 1) (D.put (keyL (p :: zs)) (.held v))) := Lib.hid fun W1 v h1 => by
        obtain ⟨W', g1, g2, g3⟩ := hstore W1 v (hW.trans (h1.mono hW.size))
        exact ⟨W', g1, g3, g2⟩
      rcases hm : (M (p :: zs)).isSome with _ | _
      · have hkk : Maps.size D < room := by
          rcases hk2 with e | e
          · rw [hm] at e; cases e
          · omega
        exact bdo_put_false W b pb poff n c room mb kn kc p mc kcc op (l.getD p noPol).kind KA Ac N (now : Nat) s (l.getD p noPol).T (l.getD p noPol).Tau (l.getD p noPol).perm ((getB M (p :: zs)).tat : Nat) r0 r2 r3 r4 r5 (t' : Nat) r1 xs (bytesArr (p :: zs))
          hargs.1 hargs.2.1 hargs.2.2 hp0 hp1 hp2 hp3 hq3 hq4 hpn (HIh W hW) (Lib.hid fun W1 h1 => by have := hlk W1 (hW.trans (h1.mono hW.size)); rw [hm] at this; exact this) (Lib.hid fun W1 h1 => HD W1 (hW.trans (h1.mono hW.size)))
          _ (fun v W a u hne hh => hh.setCell (Ne.symm hne) u) HU (Maps.size D) (decide_eq_false (by omega)) (decide_eq_false (by omega)) (Lib.hid fun W1 h1 ty => (own_below hown (hW.trans (h1.mono hW.size))).len Try.underlying69 ty)
      · exact bdo_put_true W b pb poff n c room mb kn kc p mc kcc op (l.getD p noPol).kind KA Ac N (now : Nat) s (l.getD p noPol).T (l.getD p noPol).Tau (l.getD p noPol).perm ((getB M (p :: zs)).tat : Nat) r0 r2 r3 r4 r5 (t' : Nat) r1 xs (bytesArr (p :: zs))
          hargs.1 hargs.2.1 hargs.2.2 hp0 hp1 hp2 hp3 hq3 hq4 hpn (HIh W hW) (Lib.hid fun W1 h1 => by have := hlk W1 (hW.trans (h1.mono hW.size)); rw [hm] at this; exact this) (Lib.hid fun W1 h1 => HD W1 (hW.trans (h1.mono hW.size)))
          _ (fun v W a u hne hh => hh.setCell (Ne.symm hne) u) HU
    · rintro e w' ⟨he, A', m', k', how, hpu, hof⟩
      refine ⟨he, ?_, hof⟩
      obtain ⟨es, ck, hmm⟩ := own_map hown
      have htidy := hown.tidy keyed
      have hsz2 : Maps.size (D.put (keyL (p :: zs)) (.held (.agg #[.int .i64 (t' : Nat), .slice A' m' k']))) = sizeB M (p :: zs) (⟨r0, r1, r2, r3, r4, r5⟩, ⟨t', xs⟩, true) k := by
        rw [size_put htidy]
        unfold sizeB
        rcases hm : M (p :: zs) with _ | cc
        · rw [hM.no _ hz hm]; simp; omega
        · rw [(hM.yes _ _ hm).1]; simp; exact hsz
      refine ⟨⟨h.blk.off hof (by simpa using hb2), h.pol.offm (Nat.le_refl _) (by omega) hmm hof, h.okp, h.len, h.room, ⟨_, own_tight hpu, Nat.le_of_eq hsz2, (hM.offm hmm hof).put (c := ⟨t', xs⟩) htidy.isMap h.bytes hz how.arg how.shp⟩, ?_⟩, ⟨_, own_tight hpu, hsz2⟩⟩
      · intro y cc hy
        unfold putB at hy
        by_cases e : y = p :: zs
        · rw [if_pos e] at hy
          cases hy
          exact ⟨p, zs, e, hp, by omega, hkey.byte, hcon⟩
        · rw [if_neg e] at hy
          exact h.inf y cc hy
end Go.Proofs.Ytnkecjjfbllgdaa
