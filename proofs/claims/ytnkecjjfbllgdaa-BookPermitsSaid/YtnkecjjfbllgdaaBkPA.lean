/- BookPermits: lemmas and the walk (joined). -/
import Derived.Test.YtnkecjjfbllgdaaBkCl
import Derived.Deep.DeepCutAuto

/- Do of a call that puts a cell, with the memory of the new cell told. -/
namespace Go.Proofs.Ytnkecjjfbllgdaa
open Go.RowKit Go.Maps
set_option maxRecDepth 100000
set_option linter.unusedVariables false

theorem book_put_x (w : World) (b n c room mb k op p kn kc now : Nat) (A KA : Option Addr) (l : List PolM) (M : BkMap) (N s : Int) (zs : List Nat)
    (hX : BkX w b A n c l room mb k M) (ho : 1 ≤ op ∧ op ≤ 4) (hp : p < l.length) (hkd : kindB op (l.getD p noPol).kind = true) (hkey : Arg w w.heap.size KA kn kc zs) (hkn : kn ≤ 255)
    (hN : op = 1 → isTick N = true) (hnow : now ≤ 4611686018427387903) (hs : op = 2 → 1 ≤ s ∧ s ≤ 4611686018427387903) (hk : k ≤ 1000000) (hk2 : (M (p :: zs)).isSome = true ∨ k < room) (hch : (cellM (l.getD p noPol) (getB M (p :: zs)) op N now s).2.2 = true) :
    Calls Try.prog 18 #[.pointer (some ⟨b, 0, none⟩), .agg #[.int .u8 (op : Nat), .int .i64 (p : Nat), .slice KA kn kc, .int .i64 N], .int .i64 (now : Nat), .int .i64 s] w
      fun e w' => e = .returned (repX (cellM (l.getD p noPol) (getB M (p :: zs)) op N now s).1) ∧ ∃ A' m' k' D, OwnI w' w.heap.size A' m' k' (cellM (l.getD p noPol) (getB M (p :: zs)) op N now s).2.1.held ∧ w.ownsMap Try.prog 9 RV mb (Maps.size D) D ∧ MapR w D M ∧
        w'.ownsMap Try.prog 9 RV mb (Maps.size D + 1) (D.put (keyL (p :: zs)) (.held (celV (cellM (l.getD p noPol) (getB M (p :: zs)) op N now s).2.1 A' m' k'))) ∧ Off [mb] w w' := by
  have h := hX.r
  obtain ⟨D, hown, _, hM⟩ := h.map
  have hsz : Maps.size D = k := by
    obtain ⟨D', h1, h2⟩ := hX.e
    rw [own_uniq hown h1]
    exact h2
  have hlen := h.len
  have hkl := hkey.len
  have hroom := h.room
  have hz : ∀ d ∈ p :: zs, d < 256 := fun d hd => by
    rcases List.mem_cons.1 hd with rfl | hd
    · omega
    · exact hkey.byte d hd
  have hzl : (p :: zs).length ≤ 1000 := by simp; omega
  have hln : l.length = n := by have := h.pol.len; rw [FP_len] at this; omega
  have hok : (l.getD p noPol).ok := by
    refine polB_ok.1 (List.all_eq_true.1 h.okp _ ?_)
    rw [List.getD_eq_getElem?_getD, List.getElem?_eq_getElem hp]
    exact List.getElem_mem hp
  have hcok : (getB M (p :: zs)).ok (l.getD p noPol) := by
    unfold getB
    rcases hm : M (p :: zs) with _ | cc
    · exact CelM.zero_ok hok
    · obtain ⟨p', zs', e, _, _, _, h6⟩ := h.inf _ _ hm
      simp only [List.cons.injEq] at e
      rw [← e.1] at h6
      exact h6
  obtain ⟨Ac, mc, kcc, hA, hsh, hlk⟩ := look_any hown hM hz hzl
  obtain ⟨pb, poff, rfl, hpb, hpc⟩ := h.pol.at_ (by omega)
  have hpc' := fun j (hj : j < 4) => (hpc (p * 4 + j) (by omega)).trans (FP_at l p j hp hj)
  have HI := fun W (hW : Below w.heap.size w W) => (ident_ok W w.heap.size KA p kn kc zs (hkey.below hW) hW.size (by omega) hkn)
  have hcon := cellM_ok (op := op) (now := now) (n := N) (s := s) hok hcok hkd hnow
  have HD := fun W (hW : Below w.heap.size w W) => cellDo_any W (l.getD p noPol) (getB M (p :: zs)) op now (p : Int) N s Ac KA mc kcc kn kc hok hcok ho hkd hN hnow ((hA.below hW).more hW.size) hsh
  generalize hoo : cellM (l.getD p noPol) (getB M (p :: zs)) op N now s = o at HD hcon hch ⊢
  obtain ⟨⟨r0, r1, r2, r3, r4, r5⟩, ⟨t', xs⟩, ch⟩ := o
  have q5 : ((op : Int) == 5) = false := beq_eq_false_iff_ne.2 (by omega)
  have q6 : ((op : Int) == 6) = false := beq_eq_false_iff_ne.2 (by omega)
  have HC : ∀ W, Below w.heap.size w W → Calls Try.prog 33 #[.pointer (some ⟨b, 0, none⟩), .agg #[.int .u8 (op : Nat), .int .i64 (p : Nat), .slice KA kn kc, .int .i64 N], .int .i64 (now : Nat), .int .i64 s] W fun e w' => e = .returned (.int .i64 0) ∧ Below W.heap.size W w' := fun W hW => by
    have hc0 : chkC l op (p : Int) kn N = 0 := by
      unfold chkC
      rw [if_neg (by omega), if_neg (by omega), if_neg (by rintro ⟨e, e2⟩; rw [hN e] at e2; cases e2), if_neg (by omega), if_neg]
      rintro (e | e | e)
      · omega
      · omega
      · rw [Int.toNat_natCast, hkd] at e; cases e
    have hT : isTick (now : Int) = true := isTick_iff.2 (by omega)
    refine bcheck_ok W b n c op kn kc _ KA (p : Int) N (now : Nat) s 0 room mb (h.blk.below hW) (Lib.hid fun W => by rw [← hT]; exact bTick_any W _) (fun e2 => Lib.hid fun W => ?_) (Lib.hid fun W2 h2 => ?_)
    · have := bSerial_any W s
      rw [decide_eq_true (hs e2).1, decide_eq_true (hs e2).2] at this
      exact this
    · have := checkCall_any W2 w.heap.size _ KA n c kn kc op l (p : Int) N (h.pol.below (hW.trans (h2.mono hW.size))) (hW.trans (h2.mono hW.size)).size
      rw [hc0] at this
      exact this
  have hq3 : (0 : Int) ≤ (p : Int) := by omega
  have hq4 : (p : Int) < (n : Int) := by omega
  have hpn : p < n := by omega
  have HIh : ∀ W, Below w.heap.size w W → Hid (∀ W1, Below W.heap.size W W1 → Calls Try.prog 53 #[.int .i64 (p : Nat), .slice KA kn kc] W1 fun e w' => ∃ A c, e = .returned (.tuple #[.slice A (kn + 1) c, .int .i64 0]) ∧ (convert 23 9 (.slice A (kn + 1) c)).run Try.prog w' = .ok (.string (bytesArr (p :: zs))) w' ∧ Below W1.heap.size W1 w') := fun W hW => Lib.hid fun W1 h1 => by
    refine (HI W1 (hW.trans (h1.mono hW.size))).mono ?_
    rintro e w' ⟨Ai, ci, e1, e2, e3⟩
    exact ⟨Ai, ci, e1, conv_any e2, e3⟩
  have hb2 : b ≠ mb := by
    obtain ⟨es, ck, hm⟩ := own_map hown
    exact cell_ne_map (p := ⟨b, 0, none⟩) (h.blk.cell 0 _ rfl) hm
  obtain rfl : ch = true := hch
  have hstore := fun W v (hW : Below w.heap.size w W) => (own_below hown hW).store (t := 69) (e := 83) keyed Try.underlying69 (by unfold maxLen; omega) (key := .string (bytesArr (p :: zs))) (val := v) (d := .held v) (ps := []) (key_of hzl) rfl
  refine (bDo_put w b op kn kc KA (p : Int) N (now : Nat) s r0 r2 r3 r4 r5 r1 q5 q6 (Lib.hid HC) mb (t' : Nat) xs hown.lt
    (fun v W => W.ownsMap Try.prog 9 RV mb (Maps.size D + 1) (D.put (keyL (p :: zs)) (.held v))) (fun v W a u hne hh => hh.setCell (Ne.symm hne) u) (Lib.hid fun W hW => ?_)).mono ?_
  · have hargs := And.intro (h.blk.below hW) (And.intro (Nat.lt_of_lt_of_le hown.lt hW.size) (Nat.lt_of_lt_of_le hpb hW.size))
    have hp0 := (hW.cell (p := ⟨pb, poff + p * 4, none⟩) hpb).trans (hpc' 0 (by omega))
    have hp1 := (hW.cell (p := ⟨pb, poff + p * 4 + 1, none⟩) hpb).trans (hpc' 1 (by omega))
    have hp2 := (hW.cell (p := ⟨pb, poff + p * 4 + 2, none⟩) hpb).trans (hpc' 2 (by omega))
    have hp3 := (hW.cell (p := ⟨pb, poff + p * 4 + 3, none⟩) hpb).trans (hpc' 3 (by omega))
    have HU : Hid (∀ W1 v, Below W.heap.size W W1 → ∃ W', (Instr.mapUpdate 69 (.map (some mb)) (.string (bytesArr (p :: zs))) v).run Try.prog W1 = .ok () W' ∧ W1.mapTurned W' mb ∧ W'.ownsMap Try.prog 9 RV mb (Maps.size D + 1) (D.put (keyL (p :: zs)) (.held v))) := Lib.hid fun W1 v h1 => by
      obtain ⟨W', g1, g2, g3⟩ := hstore W1 v (hW.trans (h1.mono hW.size))
      exact ⟨W', g1, g3, g2⟩
    rcases hm : (M (p :: zs)).isSome with _ | _
    · have hkk : Maps.size D < room := by
        rcases hk2 with e | e
        · rw [hm] at e; cases e
        · omega
      exact bdo_put_false W b pb poff n c room mb kn kc p mc kcc op (l.getD p noPol).kind KA Ac N (now : Nat) s (l.getD p noPol).T (l.getD p noPol).Tau (l.getD p noPol).perm ((getB M (p :: zs)).tat : Nat) r0 r2 r3 r4 r5 (t' : Nat) r1 xs (bytesArr (p :: zs))
        hargs.1 hargs.2.1 hargs.2.2 hp0 hp1 hp2 hp3 hq3 hq4 hpn (HIh W hW) (Lib.hid fun W1 h1 => by have := hlk W1 (hW.trans (h1.mono hW.size)); rw [hm] at this; exact this) (Lib.hid fun W1 h1 => HD W1 (hW.trans (h1.mono hW.size)))
        _ (fun v W a u hne hh => hh.setCell (Ne.symm hne) u) HU (Maps.size D) (decide_eq_false (by omega)) (decide_eq_false (by omega)) (Lib.hid fun W1 h1 ty => (own_below hown (hW.trans (h1.mono hW.size))).len Try.underlying69 ty)
    · exact bdo_put_true W b pb poff n c room mb kn kc p mc kcc op (l.getD p noPol).kind KA Ac N (now : Nat) s (l.getD p noPol).T (l.getD p noPol).Tau (l.getD p noPol).perm ((getB M (p :: zs)).tat : Nat) r0 r2 r3 r4 r5 (t' : Nat) r1 xs (bytesArr (p :: zs))
        hargs.1 hargs.2.1 hargs.2.2 hp0 hp1 hp2 hp3 hq3 hq4 hpn (HIh W hW) (Lib.hid fun W1 h1 => by have := hlk W1 (hW.trans (h1.mono hW.size)); rw [hm] at this; exact this) (Lib.hid fun W1 h1 => HD W1 (hW.trans (h1.mono hW.size)))
        _ (fun v W a u hne hh => hh.setCell (Ne.symm hne) u) HU
  · rintro e w' ⟨he, A', m', k', how, hpu, hof⟩
    exact ⟨he, A', m', k', D, how, hown, hM, hpu, hof⟩
end Go.Proofs.Ytnkecjjfbllgdaa


/- BookPermits: one semaphore's cell, beside a list of the law's own. -/
namespace Go.Proofs.Ytnkecjjfbllgdaa
open Go.RowKit Go.Maps
set_option maxRecDepth 100000
set_option linter.unusedVariables false

abbrev K0 : List Nat := [0, 107]
abbrev tabP (r : Nat) : List PolM := [⟨2, 0, 0, 1 + (r : Int)⟩]
def MpX (pr : Bool) (xs : List Int) : BkMap := fun z => if z = K0 ∧ pr = true then some ⟨0, xs⟩ else none
theorem MpX_get (pr : Bool) (xs : List Int) (h : pr = false → xs = []) : getB (MpX pr xs) K0 = ⟨0, xs⟩ := by
  unfold getB MpX
  rcases pr with _ | _
  · rw [if_neg (by simp), h rfl]; rfl
  · rw [if_pos ⟨rfl, rfl⟩]; rfl
theorem MpX_put (pr : Bool) (xs ys : List Int) : putB (MpX pr xs) K0 ⟨0, ys⟩ = MpX true ys := by
  funext z
  unfold putB MpX
  by_cases h : z = K0
  · rw [if_pos h, if_pos ⟨h, rfl⟩]
  · rw [if_neg h, if_neg (fun e => h e.1), if_neg (fun e => h e.1)]
theorem has_perm {hs xs : List Int} (h : hs.Perm xs) (n : Int) : hasV hs n = hasV xs n := by
  unfold hasV
  rw [Bool.eq_iff_iff, List.any_eq_true, List.any_eq_true]
  constructor
  · rintro ⟨x, hx, e⟩; exact ⟨x, h.mem_iff.1 hx, e⟩
  · rintro ⟨x, hx, e⟩; exact ⟨x, h.mem_iff.2 hx, e⟩
theorem perm_put : ∀ (xs : List Int) (n : Int), (putV xs n).Perm (n :: xs)
  | [], n => List.Perm.refl _
  | x :: l, n => by
    unfold putV
    split
    · exact List.Perm.refl _
    · exact ((perm_put l n).cons x).trans (List.Perm.swap n x l)
theorem perm_snoc {hs xs : List Int} (h : hs.Perm xs) (n : Int) : (hs ++ [n]).Perm (putV xs n) :=
  ((List.perm_append_comm).trans (h.cons n)).trans (perm_put xs n).symm
theorem perm_drop {hs xs : List Int} (h : hs.Perm xs) (n : Int) : (dropV hs n).Perm (dropV xs n) := h.filter _
theorem OwnI.off {w w' : World} {B n c : Nat} {A : Option Addr} {xs : List Int} {S : List Nat} (h : OwnI w B A n c xs) (ho : Off S w w') (hS : ∀ g cs, w.heap[g]? = some (.cells cs 2) → B ≤ g → g ∉ S) : OwnI w' B A n c xs := by
  rcases h with ⟨h0, h | ⟨g, cap, cur, h1, h2, h3, h4⟩⟩
  · exact ⟨h0, .inl h⟩
  · exact ⟨h0, .inr ⟨g, cap, cur, h1, h2, (ho.block g (lt_of_block h3) (hS g cur h3 h2)).trans h3, h4⟩⟩
theorem grown_off {w w' : World} {row : Option Nat} (h : w.grownBy w' row) : Off row.toList w w' :=
  ⟨h.os, h.tape, h.output, h.size, fun i hi hn => h.block i hi (fun e => hn (by rw [← e]; simp))⟩
/-- The book behind a permit that was taken and a list of the law's own that has grown. -/
theorem pe_acq {w w' w2 : World} {xa ma k r Bq B0 ca m' k' : Nat} {A1 A' : Option Addr} {pr : Bool} {xs ys : List Int} {D : DataW Value} {row : Option Nat}
    (hX : BkX w xa A1 1 ca (tabP r) 8 ma k (MpX pr xs)) (hown : w.ownsMap Try.prog 9 RV ma (Maps.size D) D) (hM : MapR w D (MpX pr xs)) (hpol : ArgC w B0 4 A1 1 ca (FP (tabP r))) (hx0 : xa < B0) (hm0 : ma < B0) (hB0 : B0 ≤ w.heap.size)
    (hA : OwnI w' w.heap.size A' m' k' ys) (hput : w'.ownsMap Try.prog 9 RV ma (Maps.size D + 1) (D.put (keyL K0) (.held (celV ⟨0, ys⟩ A' m' k')))) (hof : Off [ma] w w')
    (hg : w'.grownBy w2 row) (hrow : ∀ g, row = some g → B0 ≤ g ∧ g < w.heap.size) (hok : semB (1 + (r : Int)) ys = true) :
    ∃ k2, BkX w2 xa A1 1 ca (tabP r) 8 ma k2 (MpX true ys) ∧ ArgC w2 B0 4 A1 1 ca (FP (tabP r)) := by
  obtain ⟨es, ck, hm⟩ := own_map hown
  have h := hX.r
  have hxm : xa ≠ ma := cell_ne_map (p := ⟨xa, 0, none⟩) (h.blk.cell 0 _ rfl) hm
  have ho2 := grown_off hg
  have hns : ∀ x, x < B0 → x ∉ row.toList := fun x hx hm => by
    rcases row with _ | g
    · simp at hm
    · simp at hm; have := (hrow g rfl).1; omega
  have hb2 : Below B0 w' w2 := ho2.below (Nat.le_trans hB0 hof.size) (fun x hx => by
    rcases row with _ | g
    · simp at hx
    · simp at hx; have := (hrow g rfl).1; omega)
  have hpol1 : ArgC w' B0 4 A1 1 ca (FP (tabP r)) := ⟨hpol.len, hpol.le, hpol.cap, hpol.none_, fun hn => by
    obtain ⟨b, off, e, hb, hc⟩ := hpol.at_ hn
    have h0 := hc 0 (by omega)
    rw [List.getElem?_eq_getElem (by rw [FP_len]; simp)] at h0
    have hne : b ≠ ma := cell_ne_map (p := ⟨b, off + 0, none⟩) h0 hm
    exact ⟨b, off, e, hb, fun j hj => (hof.cell (p := ⟨b, off + j, none⟩) (Nat.lt_of_lt_of_le hb hB0) (by simpa using hne)).trans (hc j hj)⟩⟩
  have hpol2 := hpol1.below hb2
  have hput2 : w2.ownsMap Try.prog 9 RV ma (Maps.size D + 1) (D.put (keyL K0) (.held (celV ⟨0, ys⟩ A' m' k'))) := by
    obtain ⟨es', ck', hb', r'⟩ := hput
    exact ⟨es', ck', (ho2.block ma (lt_of_block hb') (hns ma hm0)).trans hb', r'⟩
  have hA2 : OwnI w2 w.heap.size A' m' k' ys := hA.off ho2 (fun g cs _ hB hin => by
    rcases row with _ | g'
    · simp at hin
    · simp at hin; have := (hrow g' rfl).2; omega)
  have htidy := hown.tidy keyed
  have hM2 : MapR w2 (D.put (keyL K0) (.held (celV ⟨0, ys⟩ A' m' k'))) (MpX true ys) := by
    refine ⟨fun z hz hn => ?_, fun z c hc => ?_⟩
    · have hzk : z ≠ K0 := fun e => by unfold MpX at hn; rw [if_pos ⟨e, rfl⟩] at hn; cases hn
      rw [has_put_other (fun hk => hzk (keyL_inj hz (by decide) hk))]
      exact hM.no z hz (by unfold MpX; rw [if_neg (fun e => hzk e.1)])
    · unfold MpX at hc
      split at hc
      · rename_i hz
        cases hc
        rw [hz.1]
        exact ⟨has_put_same htidy.isMap (keyLit K0) _, A', m', k', fun zd => atKey_put_same htidy.isMap (keyLit K0) _ _, hA2.arg, hA2.shp⟩
      · cases hc
  refine ⟨_, ⟨⟨(h.blk.off hof (by simpa using hxm)).off ho2 (hns xa hx0), hpol2.more (Nat.le_trans hB0 (Nat.le_trans hof.size ho2.size)), h.okp, h.len, h.room, ⟨_, own_tight hput2, Nat.le_refl _, hM2⟩, fun z c hc => ?_⟩, ⟨_, own_tight hput2, rfl⟩⟩, hpol2⟩
  unfold MpX at hc
  split at hc
  · rename_i hz
    cases hc
    exact ⟨0, [107], hz.1, by simp, by simp, by decide, ⟨fun hk => absurd hk (by show ¬ (2 : Nat) = 1; decide), fun _ => ⟨rfl, hok⟩, by simp⟩⟩
  · cases hc

section
variable {w w' : World} {B k n c : Nat} {T : TypeId} {A : Option Addr} {cs : List Value} {zs : List Nat} {xs : List Int} {S : List Nat}
theorem ownsRow_off {v : Value} (h : w.ownsRow B T k v n cs) (ho : Off S w w') (hS : ∀ x ∈ S, x < B) : w'.ownsRow B T k v n cs := by
  rcases h with ⟨h0, h | ⟨g, cap, cur, h1, h2, h3, h4⟩⟩
  · exact ⟨h0, .inl h⟩
  · exact ⟨h0, .inr ⟨g, cap, cur, h1, h2, (ho.block g (lt_of_block h3) (fun e => by have := hS g e; omega)).trans h3, h4⟩⟩
theorem OwnC.offT (h : OwnC w B T k A n c cs) (ho : Off S w w') (hS : ∀ x ∈ S, x < B) : OwnC w' B T k A n c cs := ownsRow_off h ho hS
theorem OwnB.offT (h : OwnB w B A n c zs) (ho : Off S w w') (hS : ∀ x ∈ S, x < B) : OwnB w' B A n c zs := ⟨ownsRow_off h.1 ho hS, h.2⟩
theorem OwnI.offT (h : OwnI w B A n c xs) (ho : Off S w w') (hS : ∀ x ∈ S, x < B) : OwnI w' B A n c xs := ownsRow_off h ho hS
theorem CelsO.offT {L : List CelR} (h : CelsO w B L) (ho : Off S w w') (hS : ∀ x ∈ S, x < B) : CelsO w' B L := fun e he => ⟨(h e he).1.offT ho hS, (h e he).2.1.offT ho hS, (h e he).2.2⟩
end
/-- An append of one number, with what has grown told. -/
theorem wpList_append_int1 {w : World} {ops : Array Oper} {rest : List Oper} {o : Oper} {a : Act} {Q : Exit → Act → World → Prop} (hgd : o.guard = none) (s x : Operand)
    (ho : o.op = .call { callee := .builtin .append, args := #[s, x], argTypes := #[53, 53] })
    (base : Nat) (A : Option Addr) (n c : Nat) (xs : List Int) (hs : a.eval s = .slice A n c) (hown : OwnI w base A n c xs)
    (g m : Nat) (z : Int) (hx : a.eval x = .slice (some ⟨g, 0, none⟩) 1 m) (hc : BlkL w g [.int .i64 z]) (hn : n + 1 ≤ 1000000) (hbase : base ≤ w.heap.size)
    (h : ∀ A' c' w', OwnI w' base A' (n + 1) c' (xs ++ [z]) → w.grownBy w' (Value.slice A n c).ownBlock → wpList Try.prog ops Q rest (a.put o.dst (.slice A' (n + 1) c')) w') : wpList Try.prog ops Q (o :: rest) a w := by
  obtain ⟨i0, hi, hz0, hz1, hz2⟩ := info_parts i64_info
  refine wpList_append_own w hgd s x 53 ho base 2 i0 (.int .i64 0) 1 8 Try.underlying53 hi hz0 hz1 hz2 rfl (by decide) _ n _ hs hown ⟨g, 0, none⟩ 1 m [.int .i64 z] hx rfl (fun j u hj => ?_) (by simp [Value.oneCell']) (by unfold maxLen; omega) (by omega) hbase ?_
  · have e2 : (⟨g, 0, none⟩ : Addr).add j = ⟨g, j, none⟩ := by unfold Addr.add; split <;> simp_all
    rw [e2]; exact hc.cell j u hj
  · intro v' w' h2 h3 h4
    obtain ⟨A', c', rfl, h5⟩ := own_form h2
    exact h A' c' w' (by unfold OwnI; simpa [OwnC] using h5) h3
theorem tabP_ok {r : Nat} (hr : r < 4) : (tabP r).all polB = true := by
  have h1 : polB ⟨2, 0, 0, 1 + (r : Int)⟩ = true := by
    unfold polB
    rw [if_neg (by show ¬ (2 : Nat) = 1; decide), if_pos rfl, decide_eq_true (show 1 ≤ 1 + (r : Int) by omega), decide_eq_true (show 1 + (r : Int) ≤ 64 by omega)]; rfl
  simp only [tabP, List.all_cons, List.all_nil, h1]; rfl
theorem pnew_any (w : World) (r : Nat) (hr : r < 4) : Calls Try.prog 15 #[.slice (some ⟨w.heap.size, 0, none⟩) 1 1, .int .i64 8] (w.alloc (.cells #[.int .u8 2, .int .i64 0, .int .i64 0, .int .i64 (1 + (r : Int))] 52))
    fun e w' => ∃ xb A' c' mb, e = .returned (.tuple #[.pointer (some ⟨xb, 0, none⟩), .int .i64 0]) ∧ BkX w' xb A' 1 c' (tabP r) 8 mb 0 (fun _ => none) ∧ w.heap.size ≤ mb ∧ Below w.heap.size w w' := by
  have hk := BlkL.new w [.int .u8 2, .int .i64 0, .int .i64 0, .int .i64 (1 + (r : Int))] 52
  have ha : ArgC (w.alloc (.cells #[.int .u8 2, .int .i64 0, .int .i64 0, .int .i64 (1 + (r : Int))] 52)) (w.alloc (.cells #[.int .u8 2, .int .i64 0, .int .i64 0, .int .i64 (1 + (r : Int))] 52)).heap.size 4 (some ⟨w.heap.size, 0, none⟩) 1 1 (FP (tabP r)) := by
    refine ⟨rfl, Nat.le_refl _, by unfold maxLen; omega, (fun e => by cases e), fun _ => ⟨w.heap.size, 0, rfl, hk.lt, fun j hj => ?_⟩⟩
    rw [Nat.zero_add]
    have hj2 : j < (FP (tabP r)).length := by rw [FP_len]; exact hj
    rw [List.getElem?_eq_getElem hj2]
    exact hk.cell j _ (List.getElem?_eq_getElem hj2)
  refine (bnew_any _ w.heap.size 0 1 1 8 (tabP r) ha (by omega) (by omega) (tabP_ok hr)).mono ?_
  rintro e w' ⟨xb, A', c', mb, he, hx, h1, h2, hb⟩
  exact ⟨xb, A', c', mb, he, hx, by simp at h2; omega, (below_a1 w _).trans (hb.mono (by simp))⟩
/-- Where the book and the law's list stand. -/
structure PeR (w0 w : World) (B0 xa ma r : Nat) (A1 : Option Addr) (ca : Nat) (HA : Option Addr) (hn hc : Nat) (hs : List Int) : Prop where
  low : Below w0.heap.size w0 w
  ga : w0.heap.size ≤ ma
  b0 : B0 ≤ w.heap.size ∧ xa < B0 ∧ ma < B0 ∧ w0.heap.size ≤ B0
  pol : ArgC w B0 4 A1 1 ca (FP (tabP r))
  own : OwnI w B0 HA hn hc hs
  st : ∃ k pr xs, BkX w xa A1 1 ca (tabP r) 8 ma k (MpX pr xs) ∧ (pr = false → xs = []) ∧ hs.Perm xs ∧ semB (1 + (r : Int)) xs = true
theorem mpx_one {w : World} {xa ca r ma k : Nat} {A1 : Option Addr} {pr : Bool} {xs : List Int} (h : BkX w xa A1 1 ca (tabP r) 8 ma k (MpX pr xs)) : k ≤ 1 :=
  h.one K0 (fun z c hc => by unfold MpX at hc; split at hc; rename_i e; exact e.1; cases hc)
theorem pol_off {w w' : World} {B0 ca r ma : Nat} {A1 : Option Addr} {es : Array MapEntry} {ck : Nat} (hpol : ArgC w B0 4 A1 1 ca (FP (tabP r))) (hB0 : B0 ≤ w.heap.size) (hm : w.heap[ma]? = some (.map es ck)) (hof : Off [ma] w w') : ArgC w' B0 4 A1 1 ca (FP (tabP r)) :=
  ⟨hpol.len, hpol.le, hpol.cap, hpol.none_, fun hn => by
    obtain ⟨b, off, e, hb, hc⟩ := hpol.at_ hn
    have h0 := hc 0 (by omega)
    rw [List.getElem?_eq_getElem (by rw [FP_len]; simp)] at h0
    have hne : b ≠ ma := cell_ne_map (p := ⟨b, off + 0, none⟩) h0 hm
    exact ⟨b, off, e, hb, fun j hj => (hof.cell (p := ⟨b, off + j, none⟩) (Nat.lt_of_lt_of_le hb hB0) (by simpa using hne)).trans (hc j hj)⟩⟩
/-- The three calls of the law on the one identity: what they make of it. -/
theorem pe_take {r : Nat} {pr : Bool} {xs : List Int} (hp : pr = false → xs = []) (s : Int) : cellM ((tabP r).getD 0 noPol) (getB (MpX pr xs) [0, 107]) 2 0 0 s = takeM ⟨2, 0, 0, 1 + (r : Int)⟩ ⟨0, xs⟩ s := by
  rw [MpX_get pr xs hp]; rfl
theorem pe_give {r : Nat} {pr : Bool} {xs : List Int} (hp : pr = false → xs = []) (n : Int) : cellM ((tabP r).getD 0 noPol) (getB (MpX pr xs) [0, 107]) 3 n 0 0 = giveM ⟨2, 0, 0, 1 + (r : Int)⟩ ⟨0, xs⟩ n := by
  rw [MpX_get pr xs hp]; rfl
theorem pe_peek {r : Nat} {pr : Bool} {xs : List Int} (hp : pr = false → xs = []) : (cellM ((tabP r).getD 0 noPol) (getB (MpX pr xs) [0, 107]) 4 0 0 0).1 = ⟨0, false, 1 + (r : Int) - (xs.length : Nat), 0, 0, 0⟩ ∧ (cellM ((tabP r).getD 0 noPol) (getB (MpX pr xs) [0, 107]) 4 0 0 0).2.2 = false := by
  rw [MpX_get pr xs hp]; exact ⟨rfl, rfl⟩
end Go.Proofs.Ytnkecjjfbllgdaa


/- BookPermits: the law's calls of the one semaphore. -/
namespace Go.Proofs.Ytnkecjjfbllgdaa
open Go.RowKit Go.Maps
set_option maxRecDepth 100000
set_option linter.unusedVariables false

/-- Where the book and the law's list stand, told. -/
structure PeX (w0 w : World) (B0 xa ma r : Nat) (A1 : Option Addr) (ca : Nat) (HA : Option Addr) (hn hc : Nat) (hs : List Int) (k : Nat) (pr : Bool) (xs : List Int) : Prop where
  low : Below w0.heap.size w0 w
  ga : w0.heap.size ≤ ma
  b0 : B0 ≤ w.heap.size ∧ xa < B0 ∧ ma < B0 ∧ w0.heap.size ≤ B0
  pol : ArgC w B0 4 A1 1 ca (FP (tabP r))
  own : OwnI w B0 HA hn hc hs
  bk : BkX w xa A1 1 ca (tabP r) 8 ma k (MpX pr xs)
  nil : pr = false → xs = []
  pm : hs.Perm xs
  ok : semB (1 + (r : Int)) xs = true
theorem bkx_mapP {w : World} {b n c room mb k : Nat} {A : Option Addr} {l : List PolM} {M : BkMap} (h : BkX w b A n c l room mb k M) : ∃ es ck, w.heap[mb]? = some (.map es ck) := by
  obtain ⟨D, hd1, _⟩ := h.e
  exact own_map hd1
section
variable {w0 w w' : World} {B0 xa ma r ca hn hc k hn' hc' k' : Nat} {A1 HA HA' : Option Addr} {hs xs hs' xs' : List Int} {pr pr' : Bool}
theorem PeX.below (h : PeX w0 w B0 xa ma r A1 ca HA hn hc hs k pr xs) (hb : Below w.heap.size w w') : PeX w0 w' B0 xa ma r A1 ca HA hn hc hs k pr xs :=
  ⟨h.low.trans (hb.mono h.low.size), h.ga, ⟨Nat.le_trans h.b0.1 hb.size, h.b0.2⟩, h.pol.below (hb.mono h.b0.1), h.own.below hb, h.bk.below hb, h.nil, h.pm, h.ok⟩
theorem PeX.step (h : PeX w0 w B0 xa ma r A1 ca HA hn hc hs k pr xs) (ho : Off [ma] w w') (hX : BkX w' xa A1 1 ca (tabP r) 8 ma k' (MpX pr' xs')) (h1 : pr' = false → xs' = []) (h2 : OwnI w' B0 HA' hn' hc' hs') (h3 : hs'.Perm xs') (h4 : semB (1 + (r : Int)) xs' = true) :
    PeX w0 w' B0 xa ma r A1 ca HA' hn' hc' hs' k' pr' xs' := by
  obtain ⟨es, ck, hm⟩ := bkx_mapP h.bk
  exact ⟨h.low.trans (ho.below h.low.size (by intro x hx; have := h.ga; simp at hx; omega)), h.ga, ⟨Nat.le_trans h.b0.1 ho.size, h.b0.2⟩, pol_off (ma := ma) h.pol h.b0.1 hm ho, h2, hX, h1, h3, h4⟩
theorem PeX.keep (h : PeX w0 w B0 xa ma r A1 ca HA hn hc hs k pr xs) (ho : Off [ma] w w') (hX : BkX w' xa A1 1 ca (tabP r) 8 ma k (MpX pr xs)) : PeX w0 w' B0 xa ma r A1 ca HA hn hc hs k pr xs :=
  h.step ho hX h.nil (h.own.offT ho (by intro x hx; have := h.b0.2.2.1; simp at hx; omega)) h.pm h.ok
theorem PeX.len (h : PeX w0 w B0 xa ma r A1 ca HA hn hc hs k pr xs) : xs.length = hn := by
  rw [← h.pm.length_eq]; exact h.own.len
theorem PeX.le (h : PeX w0 w B0 xa ma r A1 ca HA hn hc hs k pr xs) : (hn : Int) ≤ 1 + (r : Int) := by
  have := (semB_iff.1 h.ok).2.2.1
  rw [h.len] at this; exact this
/-- A call that changes nothing. -/
theorem pe_nop (h : PeX w0 w B0 xa ma r A1 ca HA hn hc hs k pr xs) (o : Nat) (N s E L : Int) (ho : 2 ≤ o ∧ o ≤ 4) (hs1 : o = 2 → 1 ≤ s ∧ s ≤ 4611686018427387903)
    (hc1 : (cellM ((tabP r).getD 0 noPol) (getB (MpX pr xs) [0, 107]) o N 0 s).1 = ⟨E, false, L, 0, 0, 0⟩) (hc2 : (cellM ((tabP r).getD 0 noPol) (getB (MpX pr xs) [0, 107]) o N 0 s).2.2 = false) :
    Calls Try.prog 18 #[.pointer (some ⟨xa, 0, none⟩), .agg #[.int .u8 (o : Nat), .int .i64 0, .slice (some ⟨w.heap.size, 0, none⟩) 1 1, .int .i64 N], .int .i64 0, .int .i64 s] (w.alloc (blkB 107))
      fun e w' => e = .returned (.agg #[.int .i64 E, .bool false, .int .i64 L, .int .i64 0, .int .i64 0, .int .i64 0]) ∧ PeX w0 w' B0 xa ma r A1 ca HA hn hc hs k pr xs ∧ Off [ma] w w' := by
  have hb := below_a1 w (blkB 107)
  have hk := mpx_one h.bk
  have hd := book_do (w.alloc (blkB 107)) xa 1 ca 8 ma k o 0 1 1 0 A1 (some ⟨w.heap.size, 0, none⟩) (tabP r) (MpX pr xs) N s [107] (h.bk.below hb) (by omega) (by simp) (by rcases (show o = 2 ∨ o = 3 ∨ o = 4 by omega) with rfl | rfl | rfl <;> rfl) (litB w 107 (by omega)) (by omega) (fun e => by omega) (by omega) hs1 (by omega) (.inr (by omega))
  refine (show Calls Try.prog 18 #[.pointer (some ⟨xa, 0, none⟩), .agg #[.int .u8 (o : Nat), .int .i64 0, .slice (some ⟨w.heap.size, 0, none⟩) 1 1, .int .i64 N], .int .i64 0, .int .i64 s] (w.alloc (blkB 107)) _ from hd).mono ?_
  rintro e w' ⟨he, hX, hof⟩
  have hof' := (Off.of_below (S := [ma]) hb).trans hof
  rw [hc1] at he
  rw [show sizeB (MpX pr xs) [0, 107] _ k = k from by unfold sizeB; rw [if_neg (by rw [hc2]; simp)], show afterB (MpX pr xs) [0, 107] _ = MpX pr xs from by unfold afterB; rw [if_neg (by rw [hc2]; simp)]] at hX
  exact ⟨he, h.keep hof' hX, hof'⟩
theorem pe_mine (h : PeX w0 w B0 xa ma r A1 ca HA hn hc hs k pr xs) (s : Int) (h1 : 1 ≤ s ∧ s ≤ 7) (hh : hasV hs s = true) : Calls Try.prog 18 #[.pointer (some ⟨xa, 0, none⟩), .agg #[.int .u8 2, .int .i64 0, .slice (some ⟨w.heap.size, 0, none⟩) 1 1, .int .i64 0], .int .i64 0, .int .i64 s] (w.alloc (blkB 107))
      fun e w' => e = .returned (.agg #[.int .i64 8, .bool false, .int .i64 0, .int .i64 0, .int .i64 0, .int .i64 0]) ∧ PeX w0 w' B0 xa ma r A1 ca HA hn hc hs k pr xs ∧ Off [ma] w w' := by
  have e : takeE (1 + (r : Int)) xs s = 8 := by
    unfold takeE
    rw [if_neg (by omega), if_neg (by rw [h.ok]; simp), if_pos (by rw [← has_perm h.pm]; exact hh)]
  have ht := pe_take (r := r) (pr := pr) h.nil s
  unfold takeM at ht
  dsimp only at ht
  rw [e, if_neg (by omega)] at ht
  exact pe_nop h 2 0 s 8 0 (by omega) (fun _ => by omega) (by rw [ht]; rfl) (by rw [ht])
theorem pe_busy (h : PeX w0 w B0 xa ma r A1 ca HA hn hc hs k pr xs) (s : Int) (h1 : 1 ≤ s ∧ s ≤ 7) (hh : hasV hs s = false) (hf : (hn : Int) = 1 + (r : Int)) : Calls Try.prog 18 #[.pointer (some ⟨xa, 0, none⟩), .agg #[.int .u8 2, .int .i64 0, .slice (some ⟨w.heap.size, 0, none⟩) 1 1, .int .i64 0], .int .i64 0, .int .i64 s] (w.alloc (blkB 107))
      fun e w' => e = .returned (.agg #[.int .i64 9, .bool false, .int .i64 0, .int .i64 0, .int .i64 0, .int .i64 0]) ∧ PeX w0 w' B0 xa ma r A1 ca HA hn hc hs k pr xs ∧ Off [ma] w w' := by
  have e : takeE (1 + (r : Int)) xs s = 9 := by
    unfold takeE
    rw [if_neg (by omega), if_neg (by rw [h.ok]; simp), if_neg (by rw [← has_perm h.pm, hh]; simp), if_pos (by rw [h.len]; exact hf)]
  have ht := pe_take (r := r) (pr := pr) h.nil s
  unfold takeM at ht
  dsimp only at ht
  rw [e, if_neg (by omega)] at ht
  exact pe_nop h 2 0 s 9 0 (by omega) (fun _ => by omega) (by rw [ht]; rfl) (by rw [ht])
theorem pe_not (h : PeX w0 w B0 xa ma r A1 ca HA hn hc hs k pr xs) (s : Int) (hh : hasV hs s = false) : Calls Try.prog 18 #[.pointer (some ⟨xa, 0, none⟩), .agg #[.int .u8 3, .int .i64 0, .slice (some ⟨w.heap.size, 0, none⟩) 1 1, .int .i64 s], .int .i64 0, .int .i64 0] (w.alloc (blkB 107))
      fun e w' => e = .returned (.agg #[.int .i64 11, .bool false, .int .i64 0, .int .i64 0, .int .i64 0, .int .i64 0]) ∧ PeX w0 w' B0 xa ma r A1 ca HA hn hc hs k pr xs ∧ Off [ma] w w' := by
  have ht := pe_give (r := r) (pr := pr) h.nil s
  unfold giveM at ht
  dsimp only at ht
  rw [if_neg (by rw [← has_perm h.pm, hh]; simp)] at ht
  exact pe_nop h 3 s 0 11 0 (by omega) (fun e => by omega) (by rw [ht]; rfl) (by rw [ht])
theorem pe_look (h : PeX w0 w B0 xa ma r A1 ca HA hn hc hs k pr xs) : Calls Try.prog 18 #[.pointer (some ⟨xa, 0, none⟩), .agg #[.int .u8 4, .int .i64 0, .slice (some ⟨w.heap.size, 0, none⟩) 1 1, .int .i64 0], .int .i64 0, .int .i64 0] (w.alloc (blkB 107))
      fun e w' => e = .returned (.agg #[.int .i64 0, .bool false, .int .i64 (1 + (r : Int) - (hn : Nat)), .int .i64 0, .int .i64 0, .int .i64 0]) ∧ PeX w0 w' B0 xa ma r A1 ca HA hn hc hs k pr xs ∧ Off [ma] w w' := by
  have ht := pe_peek (r := r) (pr := pr) h.nil
  rw [h.len] at ht
  exact pe_nop h 4 0 0 0 _ (by omega) (fun e => by omega) ht.1 ht.2
/-- A release of what is held. -/
theorem pe_rel (h : PeX w0 w B0 xa ma r A1 ca HA hn hc hs k pr xs) (s : Int) (hh : hasV hs s = true) : Calls Try.prog 18 #[.pointer (some ⟨xa, 0, none⟩), .agg #[.int .u8 3, .int .i64 0, .slice (some ⟨w.heap.size, 0, none⟩) 1 1, .int .i64 s], .int .i64 0, .int .i64 0] (w.alloc (blkB 107))
      fun e w' => e = .returned (.agg #[.int .i64 0, .bool true, .int .i64 (1 + (r : Int) - ((dropV hs s).length : Nat)), .int .i64 0, .int .i64 0, .int .i64 0]) ∧ Off [ma] w w' ∧ OwnI w' B0 HA hn hc hs ∧
        ∀ w2, Below w'.heap.size w' w2 → ∀ HA' hc', OwnI w2 B0 HA' (dropV hs s).length hc' (dropV hs s) → ∃ k', PeX w0 w2 B0 xa ma r A1 ca HA' (dropV hs s).length hc' (dropV hs s) k' true (dropV xs s) := by
  have hb := below_a1 w (blkB 107)
  have hk := mpx_one h.bk
  have hx : hasV xs s = true := by rw [← has_perm h.pm]; exact hh
  have hd := book_do (w.alloc (blkB 107)) xa 1 ca 8 ma k 3 0 1 1 0 A1 (some ⟨w.heap.size, 0, none⟩) (tabP r) (MpX pr xs) s 0 [107] (h.bk.below hb) (by omega) (by simp) rfl (litB w 107 (by omega)) (by omega) (fun e => by omega) (by omega) (fun e => by omega) (by omega) (.inr (by omega))
  have hg := pe_give (r := r) (pr := pr) h.nil s
  unfold giveM at hg
  dsimp only at hg
  rw [if_pos hx] at hg
  rw [hg] at hd
  have hsb := semB_iff.1 h.ok
  have hdl : (dropV xs s).length = xs.length - 1 := dropV_len hsb.2.2.2 hx
  have hdp : (dropV hs s).length = xs.length - 1 := by rw [(perm_drop h.pm s).length_eq]; exact hdl
  refine (show Calls Try.prog 18 #[.pointer (some ⟨xa, 0, none⟩), .agg #[.int .u8 3, .int .i64 0, .slice (some ⟨w.heap.size, 0, none⟩) 1 1, .int .i64 s], .int .i64 0, .int .i64 0] (w.alloc (blkB 107)) _ from hd).mono ?_
  rintro e w' ⟨he, hX, hof⟩
  have hof' := (Off.of_below (S := [ma]) hb).trans hof
  rw [show afterB (MpX pr xs) [0, 107] _ = MpX true (dropV xs s) from by unfold afterB; rw [if_pos rfl]; exact MpX_put _ _ _] at hX
  refine ⟨by rw [he, hdp], hof', h.own.offT hof' (by intro x hx; have := h.b0.2.2.1; simp at hx; omega), fun w2 hb2 HA' hc' ho => ⟨_, h.step (hof'.trans (Off.of_below hb2)) (hX.below hb2) (fun e => by cases e) ho (perm_drop h.pm s) (semB_iff.2 ⟨hsb.1, hsb.2.1, by rw [hdl]; omega, okList_filter hsb.2.2.2⟩)⟩⟩
/-- A permit that is taken. -/
theorem pe_get (h : PeX w0 w B0 xa ma r A1 ca HA hn hc hs k pr xs) (s : Int) (h1 : 1 ≤ s ∧ s ≤ 7) (hh : hasV hs s = false) (hf : (hn : Int) ≠ 1 + (r : Int)) : Calls Try.prog 18 #[.pointer (some ⟨xa, 0, none⟩), .agg #[.int .u8 2, .int .i64 0, .slice (some ⟨w.heap.size, 0, none⟩) 1 1, .int .i64 0], .int .i64 0, .int .i64 s] (w.alloc (blkB 107))
      fun e w' => e = .returned (.agg #[.int .i64 0, .bool true, .int .i64 (1 + (r : Int) - ((hn + 1 : Nat) : Int)), .int .i64 0, .int .i64 s, .int .i64 0]) ∧ Off [ma] w w' ∧ OwnI w' B0 HA hn hc hs ∧
        ∀ w2 w3, Below w'.heap.size w' w2 → w2.grownBy w3 (Value.slice HA hn hc).ownBlock → ∀ HA' hc', OwnI w3 B0 HA' (hn + 1) hc' (hs ++ [s]) → ∃ k', PeX w0 w3 B0 xa ma r A1 ca HA' (hn + 1) hc' (hs ++ [s]) k' true (putV xs s) := by
  have hb := below_a1 w (blkB 107)
  have hk := mpx_one h.bk
  have hte : takeE (1 + (r : Int)) xs s = 0 := by
    unfold takeE
    rw [if_neg (by omega), if_neg (by rw [h.ok]; simp), if_neg (by rw [← has_perm h.pm, hh]; simp), if_neg (by rw [h.len]; exact hf)]
  have hg := pe_take (r := r) (pr := pr) h.nil s
  unfold takeM at hg
  dsimp only at hg
  rw [if_pos hte] at hg
  have hd := book_put_x (w.alloc (blkB 107)) xa 1 ca 8 ma k 2 0 1 1 0 A1 (some ⟨w.heap.size, 0, none⟩) (tabP r) (MpX pr xs) 0 s [107] (h.bk.below hb) (by omega) (by simp) rfl (litB w 107 (by omega)) (by omega) (fun e => by omega) (by omega) (fun _ => by omega) (by omega) (.inr (by omega)) (by rw [hg])
  rw [hg] at hd
  refine (show Calls Try.prog 18 #[.pointer (some ⟨xa, 0, none⟩), .agg #[.int .u8 2, .int .i64 0, .slice (some ⟨w.heap.size, 0, none⟩) 1 1, .int .i64 0], .int .i64 0, .int .i64 s] (w.alloc (blkB 107)) _ from hd).mono ?_
  rintro e w' ⟨he, A', m', k', D, hA, hown, hM, hput, hof⟩
  have hof' := (Off.of_below (S := [ma]) hb).trans hof
  have hmB : ∀ x ∈ [ma], x < B0 := by intro x hx; have := h.b0.2.2.1; simp at hx; omega
  refine ⟨by rw [he, h.len], hof', h.own.offT hof' hmB, fun w2 w3 hb2 hgr HA' hc' ho => ?_⟩
  have h' := h.below hb
  have hsz1 : w.heap.size ≤ (w.alloc (blkB 107)).heap.size := hb.size
  obtain ⟨k2, hX3, hp3⟩ := pe_acq (w := w.alloc (blkB 107)) (w' := w2) (w2 := w3) (Bq := B0) (ys := putV xs s) h'.bk hown hM h'.pol h'.b0.2.1 h'.b0.2.2.1 h'.b0.1 (hA.below hb2) (own_below hput hb2) (hof.trans (Off.of_below hb2)) hgr (fun g hg => by
    rcases h.own with ⟨_, h0 | ⟨g2, cap, cur, q1, q2, q3, q4⟩⟩
    · rw [h0.1] at hg; cases hg
    · rw [q1] at hg; cases hg
      exact ⟨q2, Nat.lt_of_lt_of_le (lt_of_block q3) hsz1⟩) (sem_put hte)
  refine ⟨k2, ⟨?_, h.ga, ⟨Nat.le_trans h'.b0.1 (Nat.le_trans hof.size (Nat.le_trans hb2.size hgr.size)), h'.b0.2⟩, hp3, ho, hX3, fun e => (by cases e), perm_snoc h.pm s, sem_put hte⟩⟩
  have hl2 : Below w0.heap.size w0 w2 := h.low.trans ((hof'.trans (Off.of_below hb2)).below h.low.size (by intro x hx; have := h.ga; simp at hx; omega))
  exact hl2.trans ((grown_off hgr).below hl2.size (fun x hx => by
    rcases h.own with ⟨_, h0 | ⟨g2, cap, cur, q1, q2, q3, q4⟩⟩
    · rw [h0.1] at hx; simp [Value.ownBlock] at hx
    · rw [q1] at hx; simp [Value.ownBlock] at hx; have := h.b0.2.2.2; omega))
end
end Go.Proofs.Ytnkecjjfbllgdaa


/- BookPermits: the walk. -/
namespace Go.Proofs.Ytnkecjjfbllgdaa
open Go.RowKit Go.Maps
set_option maxRecDepth 100000
set_option linter.unusedVariables false

theorem eqBkP (x : Nat) (w : World) : (binOp .eql 34 (.pointer (some ⟨x, 0, none⟩)) (.pointer none)).run Try.prog w = .ok (.bool false) w := rfl
theorem neqRepP (a b c d e : Int) (g : Bool) (w : World) : (binOp .neq 42 (.agg #[.int .i64 a, .bool g, .int .i64 b, .int .i64 c, .int .i64 d, .int .i64 e]) (.agg #[.int .i64 a, .bool g, .int .i64 b, .int .i64 c, .int .i64 d, .int .i64 e])).run Try.prog w = .ok (.bool false) w := by simp [go_sem, Result.andThen]
theorem eqRepP (a b c d e : Int) (g : Bool) (w : World) : (binOp .eql 42 (.agg #[.int .i64 a, .bool g, .int .i64 b, .int .i64 c, .int .i64 d, .int .i64 e]) (.agg #[.int .i64 a, .bool g, .int .i64 b, .int .i64 c, .int .i64 d, .int .i64 e])).run Try.prog w = .ok (.bool true) w := by simp [go_sem, Result.andThen]
theorem lit1P (w : World) (x : Int) : BlkL (w.alloc (.cells #[.int .i64 x] 2)) w.heap.size [.int .i64 x] := BlkL.new w [.int .i64 x] 2
theorem takeP_one {xs : List Int} {k : Nat} (hk : k < xs.length) : xs.take (k + 1) = xs.take k ++ [xs.getD k 0] := by
  rw [List.take_succ_eq_append_getElem hk]
  simp [List.getD_eq_getElem?_getD, hk]
theorem hasP_append (a : List Int) (x t : Int) : hasV (a ++ [x]) t = (hasV a t || x == t) := by simp [hasV, List.any_append]
theorem dropP_append (a : List Int) (x t : Int) : dropV (a ++ [x]) t = dropV a t ++ (if x = t then [] else [x]) := by
  unfold dropV
  rw [List.filter_append]
  congr 1
  by_cases h : x = t <;> simp [h]
/-- The serial of a call. -/
theorem ser_mod (a : Int) : ∃ q : Nat, q < 7 ∧ (IntKind.u64.wrap a).tmod 7 = (q : Int) := by
  have h : IntKind.u64.wrap a = a % 18446744073709551616 := by unfold IntKind.wrap; simp [IntKind.signed, IntKind.bits]
  rw [h, Int.tmod_eq_emod_of_nonneg (by omega)]
  exact ⟨(a % 18446744073709551616 % 7).toNat, by omega, by omega⟩
theorem own_row {w : World} {B n c : Nat} {A : Option Addr} {xs : List Int} (h : OwnI w B A n c xs) : ∀ x ∈ (Value.slice A n c).ownBlock.toList, B ≤ x ∧ x < w.heap.size := by
  intro x hx
  rcases h with ⟨_, h0 | ⟨g2, cap, cur, q1, q2, q3, q4⟩⟩
  · rw [h0.1] at hx; simp [Value.ownBlock] at hx
  · rw [q1] at hx; simp [Value.ownBlock] at hx; subst hx; exact ⟨q2, lt_of_block q3⟩
abbrev RelP (w : World) (B0 xa ma r : Nat) (A1 : Option Addr) (ca n0 : Nat) (hv iv : Value) (wr : World) : Prop :=
  ∃ (j : Nat) (HA : Option Addr) (hn hc : Nat) (hs : List Int) (k : Nat) (pr : Bool) (xs : List Int), j ≤ n0 ∧ j ≤ 150 ∧ iv = .int .i64 (j : Int) ∧ hv = .slice HA hn hc ∧ PeX w wr B0 xa ma r A1 ca HA hn hc hs k pr xs
set_option maxHeartbeats 12800000 in
theorem bookPermits_walk (cl : Nat) (A0 : Option Addr) (n0 c0 : Nat) (sc : List AskV) (w : World) (hcl : cl ≤ 255) (hsc : AskA w w.heap.size A0 n0 c0 sc) (hcap : c0 ≤ 2199023255488) :
    Calls Try.prog 5 #[.int .u8 (cl : Nat), .slice A0 n0 c0] w (ValEnd w (.bool true)) := by
  obtain ⟨r, hr⟩ : ∃ r, r = cl % 4 := ⟨_, rfl⟩
  have hr4 : r < 4 := by omega
  have hrm : (cl : Int) % 4 = (r : Int) := by omega
  have hrt : (cl : Int).tmod 4 = (r : Int) := by rw [Int.tmod_eq_emod_of_nonneg (by omega)]; exact hrm
  have HAw := Lib.hid (awake16_any w)
  have HSC := Lib.hid hsc
  have HN := Lib.hid (fun w => pnew_any w r hr4)
  have heq := eqBkP
  have hle0 : n0 ≤ c0 := hsc.arg.le
  clear hsc hr
  go_enter Try.func5, Try.ntmps5
  go_wp2_with fail
  refine HAw.out.mono ?_
  rintro e w1 ⟨rfl, hb1⟩
  have HB1 := Lib.hid hb1
  clear hb1 HAw
  go_wp2_with fail
  refine (HN.out w1).mono ?_
  rintro e w2 ⟨xa, A1, ca, ma, rfl, hxa, hma, hb2⟩
  have hem : (fun _ => none : BkMap) = MpX false [] := by funext z; unfold MpX; simp
  rw [hem] at hxa
  have hlo2 := HB1.out.trans (hb2.mono HB1.out.size)
  obtain ⟨B0, hB0⟩ : ∃ B0, B0 = w2.heap.size := ⟨_, rfl⟩
  have HAp := Lib.hid (show PeX w w2 B0 xa ma r A1 ca none 0 0 [] 0 false [] from hB0 ▸ ⟨hlo2, Nat.le_trans HB1.out.size hma, ⟨Nat.le_refl _, hxa.r.blk.lt, hxa.lt, hlo2.size⟩, hxa.r.pol, OwnI.nil _ _, hxa, fun _ => rfl, List.Perm.refl _, semB_iff.2 ⟨by omega, by omega, by simp; omega, rfl⟩⟩)
  clear hb2 hxa hma HB1 HN hrm hrt hem hlo2 hB0
  go_wp2_with fail
  go_loopw [8, 43] (fun hv iv wr => RelP w B0 xa ma r A1 ca n0 hv iv wr) (fun _ iv _ => n0 - (intOf iv).toNat)
  case atStart => exact ⟨0, none, 0, 0, [], 0, false, [], Nat.zero_le _, Nat.zero_le _, rfl, rfl, HAp.out⟩
  case round =>
    obtain ⟨j, HA, hn, hc, hs, k, pr, xs, hj, hj150, rfl, rfl, hap⟩ := hrel
    have HP := Lib.hid hap
    clear hap HAp
    rcases Nat.lt_or_ge j n0 with h1 | h1
    · have hln := HSC.out.len
      obtain ⟨b, off, rfl, hbB, hcc⟩ := ((HSC.out.below HP.out.low).arg).at_ (by omega)
      have hf := fun t ht => FA_at sc j t (by omega) ht
      have e0 := (hcc (j * 6) (by omega)).trans (hf 0 (by omega))
      have e1 := (hcc (j * 6 + 1) (by omega)).trans (hf 1 (by omega))
      have e2 := (hcc (j * 6 + 2) (by omega)).trans (hf 2 (by omega))
      have e3 := (hcc (j * 6 + 3) (by omega)).trans (hf 3 (by omega))
      have e4 := (hcc (j * 6 + 4) (by omega)).trans (hf 4 (by omega))
      have e5 := (hcc (j * 6 + 5) (by omega)).trans (hf 5 (by omega))
      clear hcc hf hln hbB
      generalize sc.getD j noAsk = a at e0 e1 e2 e3 e4 e5
      obtain ⟨aop, aq, aA, an, ac, azs, aN, anow, asr⟩ := a
      simp only [AskV.cells, List.getElem?_cons_zero, List.getElem?_cons_succ] at e0 e1 e2 e3 e4 e5
      have e1 : wr.cell? ⟨b, off + j * 6 + 1, none⟩ = some (.int .i64 aq) := e1
      have e2 : wr.cell? ⟨b, off + j * 6 + 2, none⟩ = some (.slice aA an ac) := e2
      have e3 : wr.cell? ⟨b, off + j * 6 + 3, none⟩ = some (.int .i64 aN) := e3
      have e4 : wr.cell? ⟨b, off + j * 6 + 4, none⟩ = some (.int .i64 anow) := e4
      have e5 : wr.cell? ⟨b, off + j * 6 + 5, none⟩ = some (.int .i64 asr) := e5
      rcases Nat.lt_or_ge j 150 with h2 | h2
      · have HP1 := Lib.hid (HP.out.below (below_a1 wr (.cells #[.int .u8 (aop : Nat), .int .i64 aq, .slice aA an ac, .int .i64 aN, .int .i64 anow, .int .i64 asr] 39)))
        have HK1 := Lib.hid (BlkL.new wr [.int .u8 (aop : Nat), .int .i64 aq, .slice aA an ac, .int .i64 aN, .int .i64 anow, .int .i64 asr] 39)
        have HCA := Lib.hid (cells_any _ xa 1 ca 8 ma k A1 (tabP r) _ HP1.out.bk (by have := mpx_one HP1.out.bk; omega))
        obtain ⟨q, hq, hqm⟩ := ser_mod asr
        go_wp2_with fail
        refine HCA.out.mono ?_
        rintro e w6 ⟨LA, lc, l1, rfl, hl1, hlo1, hce1, hb6⟩
        have k6 := HK1.out.below hb6
        have c0 := k6.cell 0 _ rfl
        have c5 := k6.cell 5 _ rfl
        have hbs : B0 ≤ (wr.alloc (.cells #[.int .u8 (aop : Nat), .int .i64 aq, .slice aA an ac, .int .i64 aN, .int .i64 anow, .int .i64 asr] 39)).heap.size := HP1.out.b0.1
        have hmB : ∀ x ∈ [ma], x < (wr.alloc (.cells #[.int .u8 (aop : Nat), .int .i64 aq, .slice aA an ac, .int .i64 aN, .int .i64 anow, .int .i64 asr] 39)).heap.size := by intro x hx; have := HP1.out.b0.2.2.1; simp only [List.mem_singleton] at hx; omega
        generalize (wr.alloc (.cells #[.int .u8 (aop : Nat), .int .i64 aq, .slice aA an ac, .int .i64 aN, .int .i64 anow, .int .i64 asr] 39)).heap.size = B6 at hl1 hce1 hmB hbs
        have HW := Lib.hid (fun (W : World) (ho : Off [ma] w6 W) => And.intro (hl1.offT ho hmB) (hce1.offT ho hmB))
        have HLO := Lib.hid hlo1
        have HP6 := Lib.hid (HP1.out.below hb6)
        clear k6 hl1 hlo1 hce1 hb6 HCA HP1 HK1 e0 e1 e2 e3 e4 e5 hbs hmB
        go_wp2_with fail
        have hs17 : 1 ≤ 1 + (q : Int) ∧ 1 + (q : Int) ≤ 7 := by omega
        have hn4 : hn ≤ 4 := by have := HP6.out.le; omega
        go_loop [12, 60] (fun mv iv => ∃ i : Nat, i ≤ hn ∧ iv = .int .i64 (i : Int) ∧ mv = .bool (hasV (hs.take i) (1 + (q : Int)))) (fun _ iv => hn - (intOf iv).toNat)
        case atStart => exact ⟨0, Nat.zero_le _, rfl, rfl⟩
        case round =>
          obtain ⟨i, hi, rfl, rfl⟩ := hrel
          have hlen := HP6.out.own.len
          rcases Nat.lt_or_ge i hn with h3 | h3
          · obtain ⟨g, go, rfl, _, hcg⟩ := HP6.out.own.arg.at_ (by omega)
            have hck := hcg i h3
            have hst : hasV (hs.take (i + 1)) (1 + (q : Int)) = (hasV (hs.take i) (1 + (q : Int)) || hs.getD i 0 == (1 + (q : Int))) := by rw [takeP_one (by omega), hasP_append]
            clear hcg
            generalize hs.getD i 0 = d at *
            generalize hasV (hs.take i) (1 + (q : Int)) = m0 at *
            have HST := Lib.hid hst
            clear hst
            rcases m0 with _ | _
            · rcases hds : (d == (1 + (q : Int))) with _ | _
              · go_wp2
                go_round
                case rel => exact ⟨i + 1, by omega, by go_num, by rw [HST.out, hds]; rfl⟩
                case measure => simp [intOf]; omega
              · go_wp2
                go_round
                case rel => exact ⟨i + 1, by omega, by go_num, by rw [HST.out, hds]; rfl⟩
                case measure => simp [intOf]; omega
            · go_wp2
              go_round
              case rel => exact ⟨i + 1, by omega, by go_num, by rw [HST.out]; rfl⟩
              case measure => simp [intOf]; omega
          · rw [List.take_of_length_le (by omega)]
            obtain rfl : hn = i := by omega
            clear h3 hi hlen
            rcases hmi : hasV hs (1 + (q : Int)) with _ | _
            all_goals have HM := Lib.hid hmi
            all_goals clear hmi
            all_goals by_cases ht2 : aop % 2 = 0
            all_goals have kcv := fun (w : World) (C : Array Value) (n c : Nat) => Lib.run_convert_bytes_const (P := Try.prog) w 23 5 C n c Try.underlying23 Try.underlying5
            all_goals have hnq := neqRepP
            · have t1 : (aop : Int) % 2 = 0 := by omega
              have t2 : (aop : Int).tmod 2 = 0 := by rw [Int.tmod_eq_emod_of_nonneg (by omega)]; exact t1
              by_cases hbz : (hn : Int) = 1 + (r : Int)
              · have hbq : ((hn : Int) == 1 + (r : Int)) = true := by rw [hbz]; simp
                have HD := Lib.hid (pe_busy HP6.out (1 + (q : Int)) hs17 HM.out hbz)
                go_wp2_with fail
                refine HD.out.mono ?_
                rintro e w7 ⟨rfl, hp7, hof⟩
                have hofA := hof.trans (Off.of_below (S := [ma]) (below_a1 w7 (.cells #[.int .i64 9, .bool false, .int .i64 0, .int .i64 0, .int .i64 0, .int .i64 0] 42)))
                have HP8 := Lib.hid (hp7.below (below_a1 w7 (.cells #[.int .i64 9, .bool false, .int .i64 0, .int .i64 0, .int .i64 0, .int .i64 0] 42)))
                have HC2 := Lib.hid (cells_any _ xa 1 ca 8 ma k A1 (tabP r) _ HP8.out.bk (by have := mpx_one HP8.out.bk; omega))
                have HOF := Lib.hid hofA
                clear hof hofA hp7 HD
                go_wp2_with fail
                refine HC2.out.mono ?_
                rintro e w9 ⟨LB, ld, l2, rfl, hl2, hlo2, hce2, hb9⟩
                have hw := HW.out w9 (HOF.out.trans (Off.of_below hb9))
                have HSM := Lib.hid (celsame_any w9 LB LA k ld k lc l2 l1 (CelsA.of hl2 hce2) (CelsA.of hw.1 hw.2) (hlo2.uniq HLO.out) (by have := mpx_one HP8.out.bk; omega))
                have HP9 := Lib.hid (HP8.out.below hb9)
                clear hl2 hlo2 hce2 hb9 hw HC2 HP8 HOF
                go_wp2_with fail
                refine HSM.out.mono ?_
                rintro e w10 ⟨rfl, t, rfl⟩
                have HP10 := Lib.hid (HP9.out.below (below_drewN (Below.refl _ _) t))
                clear HP9 HSM
                go_wp2
                go_roundw
                case rel => exact ⟨j + 1, HA, hn, hc, hs, k, pr, xs, by omega, by omega, by push_cast; rfl, rfl, HP10.out⟩
                case measure => simp [intOf]; omega
              · have hbq : ((hn : Int) == 1 + (r : Int)) = false := beq_eq_false_iff_ne.2 hbz
                have hD := pe_get HP6.out (1 + (q : Int)) hs17 HM.out hbz
                rw [show ((hn + 1 : Nat) : Int) = (hn : Int) + 1 from by omega] at hD
                have HD := Lib.hid hD
                clear hD
                go_wp2_with fail
                refine HD.out.mono ?_
                rintro e w7 ⟨rfl, hof, ho7, hfin⟩
                have hrow := own_row ho7
                have HB8 := Lib.hid (below_a2 w7 (.cells #[.int .i64 0, .bool true, .int .i64 (1 + (r : Int) - ((hn : Int) + 1)), .int .i64 0, .int .i64 (1 + (q : Int)), .int .i64 0] 42) (.cells #[.int .i64 (1 + (q : Int))] 2))
                have HO8 := Lib.hid (ho7.below HB8.out)
                have HR8 := Lib.hid ((BlkL.new w7 [.int .i64 0, .bool true, .int .i64 (1 + (r : Int) - ((hn : Int) + 1)), .int .i64 0, .int .i64 (1 + (q : Int)), .int .i64 0] 42).alloc (.cells #[.int .i64 (1 + (q : Int))] 2))
                have HL8 := Lib.hid (lit1P (w7.alloc (.cells #[.int .i64 0, .bool true, .int .i64 (1 + (r : Int) - ((hn : Int) + 1)), .int .i64 0, .int .i64 (1 + (q : Int)), .int .i64 0] 42)) (1 + (q : Int)))
                have hb0 : B0 ≤ w7.heap.size := Nat.le_trans HP6.out.b0.1 hof.size
                have HF := Lib.hid (And.intro hrow (And.intro hfin hb0))
                clear hof ho7 hfin hrow hb0 HD
                go_wp2_with (refine wpList_append_int1 rfl (.tmp 82) (.tmp 84) rfl B0 HA hn hc hs rfl HO8.out (w7.heap.size + 1) 1 (1 + (q : Int)) rfl (by have := HL8.out; rw [World.size_alloc] at this; exact this) (by omega) (by have := HF.out.2.2; have := HB8.out.size; omega) ?_)
                intro A9 c9 w9 ho9 hg9
                obtain ⟨k9, hp9⟩ := HF.out.2.1 _ w9 HB8.out hg9 A9 c9 ho9
                have hr9 := HR8.out.off (grown_off hg9) (fun hx => by have := (HF.out.1 _ hx).2; omega)
                have c0 := hr9.cell 0 _ rfl
                have c1 := hr9.cell 1 _ rfl
                have c2 := hr9.cell 2 _ rfl
                have c3 := hr9.cell 3 _ rfl
                have c4 := hr9.cell 4 _ rfl
                have c5 := hr9.cell 5 _ rfl
                have HP9 := Lib.hid hp9
                clear hr9 hg9 ho9 hp9 HF HL8 HR8 HO8 HB8
                go_wp2_with fail
                go_roundw
                case rel => exact ⟨j + 1, A9, hn + 1, c9, _, k9, true, _, by omega, by omega, by push_cast; rfl, rfl, HP9.out⟩
                case measure => simp [intOf]; omega
            · have t1 : (aop : Int) % 2 = 1 := by omega
              have t2 : (aop : Int).tmod 2 = 1 := by rw [Int.tmod_eq_emod_of_nonneg (by omega)]; exact t1
              have HD := Lib.hid (pe_not HP6.out (1 + (q : Int)) HM.out)
              go_wp2_with fail
              refine HD.out.mono ?_
              rintro e w7 ⟨rfl, hp7, hof⟩
              have hofA := hof.trans (Off.of_below (S := [ma]) (below_a1 w7 (.cells #[.int .i64 11, .bool false, .int .i64 0, .int .i64 0, .int .i64 0, .int .i64 0] 42)))
              have HP8 := Lib.hid (hp7.below (below_a1 w7 (.cells #[.int .i64 11, .bool false, .int .i64 0, .int .i64 0, .int .i64 0, .int .i64 0] 42)))
              have HC2 := Lib.hid (cells_any _ xa 1 ca 8 ma k A1 (tabP r) _ HP8.out.bk (by have := mpx_one HP8.out.bk; omega))
              have HOF := Lib.hid hofA
              clear hof hofA hp7 HD
              go_wp2_with fail
              refine HC2.out.mono ?_
              rintro e w9 ⟨LB, ld, l2, rfl, hl2, hlo2, hce2, hb9⟩
              have hw := HW.out w9 (HOF.out.trans (Off.of_below hb9))
              have HSM := Lib.hid (celsame_any w9 LB LA k ld k lc l2 l1 (CelsA.of hl2 hce2) (CelsA.of hw.1 hw.2) (hlo2.uniq HLO.out) (by have := mpx_one HP8.out.bk; omega))
              have HP9 := Lib.hid (HP8.out.below hb9)
              clear hl2 hlo2 hce2 hb9 hw HC2 HP8 HOF
              go_wp2_with fail
              refine HSM.out.mono ?_
              rintro e w10 ⟨rfl, t, rfl⟩
              have HP10 := Lib.hid (HP9.out.below (below_drewN (Below.refl _ _) t))
              clear HP9 HSM
              go_wp2
              go_roundw
              case rel => exact ⟨j + 1, HA, hn, hc, hs, k, pr, xs, by omega, by omega, by push_cast; rfl, rfl, HP10.out⟩
              case measure => simp [intOf]; omega
            · have t1 : (aop : Int) % 2 = 0 := by omega
              have t2 : (aop : Int).tmod 2 = 0 := by rw [Int.tmod_eq_emod_of_nonneg (by omega)]; exact t1
              have HD := Lib.hid (pe_mine HP6.out (1 + (q : Int)) hs17 HM.out)
              go_wp2_with fail
              refine HD.out.mono ?_
              rintro e w7 ⟨rfl, hp7, hof⟩
              have hofA := hof.trans (Off.of_below (S := [ma]) (below_a1 w7 (.cells #[.int .i64 8, .bool false, .int .i64 0, .int .i64 0, .int .i64 0, .int .i64 0] 42)))
              have HP8 := Lib.hid (hp7.below (below_a1 w7 (.cells #[.int .i64 8, .bool false, .int .i64 0, .int .i64 0, .int .i64 0, .int .i64 0] 42)))
              have HC2 := Lib.hid (cells_any _ xa 1 ca 8 ma k A1 (tabP r) _ HP8.out.bk (by have := mpx_one HP8.out.bk; omega))
              have HOF := Lib.hid hofA
              clear hof hofA hp7 HD
              go_wp2_with fail
              refine HC2.out.mono ?_
              rintro e w9 ⟨LB, ld, l2, rfl, hl2, hlo2, hce2, hb9⟩
              have hw := HW.out w9 (HOF.out.trans (Off.of_below hb9))
              have HSM := Lib.hid (celsame_any w9 LB LA k ld k lc l2 l1 (CelsA.of hl2 hce2) (CelsA.of hw.1 hw.2) (hlo2.uniq HLO.out) (by have := mpx_one HP8.out.bk; omega))
              have HP9 := Lib.hid (HP8.out.below hb9)
              clear hl2 hlo2 hce2 hb9 hw HC2 HP8 HOF
              go_wp2_with fail
              refine HSM.out.mono ?_
              rintro e w10 ⟨rfl, t, rfl⟩
              have HP10 := Lib.hid (HP9.out.below (below_drewN (Below.refl _ _) t))
              clear HP9 HSM
              go_wp2
              go_roundw
              case rel => exact ⟨j + 1, HA, hn, hc, hs, k, pr, xs, by omega, by omega, by push_cast; rfl, rfl, HP10.out⟩
              case measure => simp [intOf]; omega
            · have t1 : (aop : Int) % 2 = 1 := by omega
              have t2 : (aop : Int).tmod 2 = 1 := by rw [Int.tmod_eq_emod_of_nonneg (by omega)]; exact t1
              obtain ⟨dl, hdl⟩ : ∃ dl, dl = (dropV hs (1 + (q : Int))).length := ⟨_, rfl⟩
              have hdl4 : dl ≤ 4 := by rw [hdl]; have := HP6.out.own.len; have h9 : (dropV hs (1 + (q : Int))).length ≤ hs.length := List.length_filter_le _ _; omega
              have hD := pe_rel HP6.out (1 + (q : Int)) HM.out
              rw [← hdl] at hD
              have HDL := Lib.hid hdl
              have HD := Lib.hid hD
              clear hD hdl
              go_wp2_with fail
              refine HD.out.mono ?_
              rintro e w7 ⟨rfl, hof, ho7, hfin⟩
              have HB8 := Lib.hid (below_a1 w7 (.cells #[.int .i64 0, .bool true, .int .i64 (1 + (r : Int) - (dl : Nat)), .int .i64 0, .int .i64 0, .int .i64 0] 42))
              have HO8 := Lib.hid (ho7.below HB8.out)
              have HR8 := Lib.hid (BlkL.new w7 [.int .i64 0, .bool true, .int .i64 (1 + (r : Int) - (dl : Nat)), .int .i64 0, .int .i64 0, .int .i64 0] 42)
              have hb0 : B0 ≤ w7.heap.size := Nat.le_trans HP6.out.b0.1 hof.size
              have hsl := HP6.out.own.len
              have HF := Lib.hid (And.intro HDL.out (And.intro hfin (And.intro hb0 hsl)))
              clear hof ho7 hfin hb0 HD hsl
              go_wp2_with fail
              generalize hw8 : w7.alloc (.cells #[.int .i64 0, .bool true, .int .i64 (1 + (r : Int) - (dl : Nat)), .int .i64 0, .int .i64 0, .int .i64 0] 42) = w8 at HB8 HO8 HR8 ⊢
              clear hw8
              go_loopw [18, 116] (fun lv iv wq => ∃ (i m : Nat) (A' : Option Addr) (c' : Nat), i ≤ hn ∧ iv = .int .i64 (i : Int) ∧ m = (dropV (hs.take i) (1 + (q : Int))).length ∧ lv = .slice A' m c' ∧ OwnI wq w8.heap.size A' m c' (dropV (hs.take i) (1 + (q : Int))) ∧ Below w8.heap.size w8 wq) (fun _ iv _ => hn - (intOf iv).toNat)
              case atStart => exact ⟨0, 0, none, 0, Nat.zero_le _, rfl, rfl, rfl, OwnI.nil _ _, Below.refl _ _⟩
              case round =>
                obtain ⟨i, m, A', c', hi, rfl, hm, rfl, ho, hb⟩ := hrel
                have HO := Lib.hid ho
                have HBw := Lib.hid hb
                have hz := hb.size
                rcases Nat.lt_or_ge i hn with hlt | hge
                · obtain ⟨g, go, rfl, _, hcg⟩ := (HO8.out.arg.below hb).at_ (by omega)
                  have hck := hcg i hlt
                  have hst := dropP_append (hs.take i) (hs.getD i 0) (1 + (q : Int))
                  rw [← takeP_one (by rw [HF.out.2.2.2]; exact hlt)] at hst
                  have hml : m ≤ i := by rw [hm]; exact Nat.le_trans (List.length_filter_le _ _) (by simp; omega)
                  clear hcg ho hb
                  generalize hs.getD i 0 = d at *
                  generalize dropV (hs.take i) (1 + (q : Int)) = ys at *
                  have HMM := Lib.hid hm
                  have HS := Lib.hid hst
                  clear hm hst
                  by_cases e : d = 1 + (q : Int)
                  · have qn : (d != 1 + (q : Int)) = false := by rw [e]; simp
                    have HZ := Lib.hid (HS.out.trans (by rw [if_pos e, List.append_nil]))
                    clear e
                    go_wp2
                    go_roundw
                    case rel => exact ⟨i + 1, m, A', c', by omega, by go_num, by rw [HZ.out]; exact HMM.out, rfl, by rw [HZ.out]; exact HO.out, HBw.out⟩
                    case measure => simp [intOf]; omega
                  · have qn : (d != 1 + (q : Int)) = true := bne_iff_ne.2 e
                    have HZ := Lib.hid (HS.out.trans (by rw [if_neg e]))
                    clear e
                    go_wp2_with (refine wpList_append_int1 rfl (.tmp 123) (.tmp 125) rfl w8.heap.size A' m c' ys rfl (HO.out.below ((Below.refl _ _).alloc (Nat.le_refl _) _)) _ 1 d rfl (lit1P _ d) (by omega) (by simp; omega) ?_)
                    intro A2 c2 w9 ho hg9
                    have HO2 := Lib.hid ho
                    have HB2 := Lib.hid ((HBw.out.alloc hz (.cells #[.int .i64 d] 2)).trans ((grown_off hg9).below (by simp; omega) (fun x hx => (own_row HO.out x hx).1)))
                    clear ho hg9
                    go_wp2
                    go_roundw
                    case rel => exact ⟨i + 1, m + 1, A2, c2, by omega, by go_num, by rw [HZ.out, HMM.out]; simp, rfl, by rw [HZ.out]; exact HO2.out, HB2.out⟩
                    case measure => simp [intOf]; omega
                · have hml : m = dl := by rw [hm, List.take_of_length_le (by rw [HF.out.2.2.2]; omega)]; exact HF.out.1.symm
                  subst hml
                  rw [List.take_of_length_le (by rw [HF.out.2.2.2]; omega)] at ho
                  obtain rfl : hn = i := by omega
                  obtain ⟨k9, hp9⟩ := HF.out.2.1 _ (HB8.out.trans (hb.mono HB8.out.size)) A' c' (ho.mono (Nat.le_trans HF.out.2.2.1 HB8.out.size))
                  have hr9 := HR8.out.below hb
                  have c0 := hr9.cell 0 _ rfl
                  have c1 := hr9.cell 1 _ rfl
                  have c2 := hr9.cell 2 _ rfl
                  have c3 := hr9.cell 3 _ rfl
                  have c4 := hr9.cell 4 _ rfl
                  have c5 := hr9.cell 5 _ rfl
                  have HP9 := Lib.hid hp9
                  clear hr9 ho hb hp9 HF HB8 HO8 HR8 HO HBw hm hge hi
                  go_wp2_with fail
                  go_roundw
                  case rel => exact ⟨j + 1, A', m, c', _, k9, true, _, by omega, by omega, by push_cast; rfl, rfl, HP9.out⟩
                  case measure => simp [intOf]; omega
      · have HPE := Lib.hid (HP.out.below (below_a1 wr (.cells #[.int .u8 (aop : Nat), .int .i64 aq, .slice aA an ac, .int .i64 aN, .int .i64 anow, .int .i64 asr] 39)))
        clear HP
        have kcv := fun (w : World) (C : Array Value) (n c : Nat) => Lib.run_convert_bytes_const (P := Try.prog) w 23 5 C n c Try.underlying23 Try.underlying5
        have heqr := eqRepP
        have hn4 : hn ≤ 4 := by have := HPE.out.le; omega
        have kca := kcvA
        have hD := pe_look HPE.out
        rw [World.size_alloc] at hD
        have HD := Lib.hid hD
        clear hD
        go_wp2_with fail
        refine HD.out.mono ?_
        rintro e w7 ⟨rfl, hp7, hof⟩
        have HL := Lib.hid (hp7.below (below_a1 w7 (.cells #[.int .i64 0, .bool false, .int .i64 (1 + (r : Int) - (hn : Nat)), .int .i64 0, .int .i64 0, .int .i64 0] 42))).low
        clear hp7 hof HD HPE
        go_wp2
        go_ret
        exact ⟨rfl, HL.out⟩
    · obtain rfl : j = n0 := by omega
      have HPE := HP
      clear HP
      have kcv := fun (w : World) (C : Array Value) (n c : Nat) => Lib.run_convert_bytes_const (P := Try.prog) w 23 5 C n c Try.underlying23 Try.underlying5
      have heqr := eqRepP
      have hn4 : hn ≤ 4 := by have := HPE.out.le; omega
      have HD := Lib.hid (pe_look HPE.out)
      go_wp2_with fail
      refine HD.out.mono ?_
      rintro e w7 ⟨rfl, hp7, hof⟩
      have HL := Lib.hid (hp7.below (below_a1 w7 (.cells #[.int .i64 0, .bool false, .int .i64 (1 + (r : Int) - (hn : Nat)), .int .i64 0, .int .i64 0, .int .i64 0] 42))).low
      clear hp7 hof HD HPE
      go_wp2
      go_ret
      exact ⟨rfl, HL.out⟩
end Go.Proofs.Ytnkecjjfbllgdaa
