/- Contract: Feed. -/
import Derived.Test.YtndgladfcogiiaaFrG
import Derived.Deep.RegionLaw
import Derived.Deep.RegionWith
namespace Go.Proofs.Ytndgladfcogiiaa
open Go.RowKit
set_option maxRecDepth 100000
set_option linter.unusedVariables false

/-- A piece of code that goes on. -/
def OnlyN (Q : Exit → Act → World → Prop) : Exit → Act → World → Prop
  | .normal, a, w => Q .normal a w
  | _, _, _ => False
theorem wp_only {P : Program} {c : Code} {Q : Exit → Act → World → Prop} {a : Act} {w : World} (h : c.wp P (OnlyN Q) a w) : c.wp P Q a w :=
  Code.wp_mono (fun e a w h => by cases e <;> first | exact h | exact h.elim) h

theorem feed_nil (w : World) (v : Value) : Calls Try.prog 38 #[.pointer none, v] w (ValEnd w (.tuple #[.slice none 0 0, .int .i64 7])) := by
  have hmf : ∀ (fn : Fn) (first cap : Array Value) (w : World), (Instr.makeFunc fn first cap).run Try.prog w = .ok (.func fn first cap) w := fun _ _ _ _ => rfl
  go_enter_defers Try.func38, Try.ntmps38
  go_wp2
  refine ⟨.tuple #[.slice none 0 0, .int .i64 7], ?_, rfl, ?_⟩
  · simp [results, Try.results38, go_sem]
  · exact ((Below.refl _ _).alloc (Nat.le_refl _) _).alloc (by simp) _
theorem feed_closed (w : World) (rb : Nat) (x v : Value) (h : BlkL w rb [x, .bool true]) : Calls Try.prog 38 #[.pointer (some ⟨rb, 0, none⟩), v] w (ValEnd w (.tuple #[.slice none 0 0, .int .i64 13])) := by
  have hmf : ∀ (fn : Fn) (first cap : Array Value) (w : World), (Instr.makeFunc fn first cap).run Try.prog w = .ok (.func fn first cap) w := fun _ _ _ _ => rfl
  have h1 := h.cell 1 _ rfl
  have hlt := h.lt
  clear h
  go_enter_defers Try.func38, Try.ntmps38
  go_wp2
  refine ⟨.tuple #[.slice none 0 0, .int .i64 13], ?_, rfl, ?_⟩
  · simp [results, Try.results38, go_sem]
  · exact ((Below.refl _ _).alloc (Nat.le_refl _) _).alloc (by simp) _

def FeedE (w : World) (B rb : Nat) (A : Option Addr) (xs zs : List Nat) (e : Ending) (w' : World) : Prop :=
  ∃ PA k kc rs A' n' c', e = .returned (.tuple #[.slice PA k kc, .int .i64 (if (Fr.frV (xs ++ zs)).2.2 then 12 else 0)]) ∧ rs.map (·.p) = (Fr.frV (xs ++ zs)).1 ∧ PayL w' w.heap.size PA k kc rs ∧
    RdM w' B rb A' n' c' (if (Fr.frV (xs ++ zs)).2.2 then [] else (Fr.frV (xs ++ zs)).2.1) (Fr.frV (xs ++ zs)).2.2 ∧ Off (rb :: bkV A) w w' ∧ (∀ y ∈ bkV A', y ∈ bkV A ∨ w.heap.size ≤ y) ∧ ∀ y ∈ bkV A', y ∉ blkP PA rs

/-- What stands in memory at Feed's door: the deferred closure is still to be run. -/
structure Door (w wd : World) (B x pb rb : Nat) (A : Option Addr) (PA : Option Addr) (k kc : Nat) (rs : List Row) (A2 : Option Addr) (n2 c2 : Nat) (rest : List Nat) (cl : Bool) : Prop where
  x_ : BlkL wd x [.pointer (some ⟨rb, 0, none⟩)]
  p_ : BlkL wd pb [.slice PA k kc]
  r_ : BlkL wd rb [.slice A2 n2 c2, .bool cl]
  a_ : Arg wd wd.heap.size A2 n2 c2 rest
  pay : PayL wd w.heap.size PA k kc rs
  ne : rb ∉ blkP PA rs
  own : k = 0 → OwnV wd B A2 n2 c2 (rest.map V8) ∧ rb ∉ bkV A2 ∧ (∀ y ∈ bkV A2, y ∈ bkV A ∨ w.heap.size ≤ y) ∧ ∀ y ∈ bkV A2, y ∉ blkP PA rs
  off : Off (rb :: bkV A) w wd
  lt : B ≤ w.heap.size ∧ rb < w.heap.size ∧ w.heap.size ≤ pb
def DoorE (w : World) (B pb rb : Nat) (A : Option Addr) (PA : Option Addr) (k kc : Nat) (rs : List Row) (rest : List Nat) (cl : Bool) (w' : World) : Prop :=
  ∃ A' n' c', PayL w' w.heap.size PA k kc rs ∧ RdM w' B rb A' n' c' rest cl ∧ Off (rb :: bkV A) w w' ∧ (∀ y ∈ bkV A', y ∈ bkV A ∨ w.heap.size ≤ y) ∧ (∀ y ∈ bkV A', y ∉ blkP PA rs) ∧ BlkL w' pb [.slice PA k kc]
theorem door_shr {w wd : World} {B x pb rb : Nat} {A PA : Option Addr} {k kc : Nat} {rs : List Row} {A2 : Option Addr} {n2 c2 : Nat} {rest : List Nat} {cl : Bool} (h : Door w wd B x pb rb A PA k kc rs A2 n2 c2 rest cl) (hn : n2 ≤ 211106232532992) :
    Calls Try.prog 88 #[.pointer (some ⟨rb, 0, none⟩), .bool (decide (0 < k))] wd fun e w' => e = .returned (.tuple #[]) ∧ DoorE w B pb rb A PA k kc rs rest cl w' := by
  by_cases hk : 0 < k
  · rw [decide_eq_true hk]
    refine (shrink_yes wd rb A2 n2 c2 cl rest h.r_ h.a_ hn).mono ?_
    rintro e w' ⟨rfl, A', c', k1, k2, k3⟩
    have hsz := h.off.size
    have hlt := h.lt
    have hpb : pb ≠ rb := by omega
    refine ⟨rfl, A', n2, c', h.pay.off k3 (fun y hy hs => ?_), ⟨k1, k2.mono (by omega), h.a_.byte, fun hy => ?_⟩, h.off.trans (k3.mono (by simp)), fun y hy => .inr ?_, fun y hy hs => ?_, h.p_.off k3 (by simpa using hpb)⟩
    · simp at hs; subst hs; exact h.ne hy
    · have := (k2.lt _ hy).1; have := h.r_.lt; omega
    · have := (k2.lt _ hy).1; omega
    · have := (k2.lt _ hy).1; have := (h.pay.lt _ hs).2; omega
  · rw [decide_eq_false hk]
    refine (shrink_no wd rb).mono ?_
    rintro e w' ⟨rfl, rfl⟩
    obtain ⟨o1, o2, o3, o4⟩ := h.own (by omega)
    exact ⟨rfl, A2, n2, c2, h.pay, ⟨h.r_, o1, h.a_.byte, o2⟩, h.off, o3, o4, h.p_⟩
theorem DoorE.fin {w w' : World} {B pb rb : Nat} {A PA : Option Addr} {k kc : Nat} {rs : List Row} {xs zs rest : List Nat} {cl : Bool} (h : DoorE w B pb rb A PA k kc rs rest cl w') (hf : Fr.frV (xs ++ zs) = (rs.map (·.p), if cl then (Fr.frV (xs ++ zs)).2.1 else rest, cl)) (hr : cl = true → rest = []) (v : Int) (hv : v = if cl then 12 else 0) :
    FeedE w B rb A xs zs (.returned (.tuple #[.slice PA k kc, .int .i64 v])) w' := by
  obtain ⟨A', n', c', h1, h2, h3, h4, h5, h6⟩ := h
  subst hv
  have e1 : (Fr.frV (xs ++ zs)).2.2 = cl := by rw [hf]
  have e2 : (Fr.frV (xs ++ zs)).1 = rs.map (·.p) := by rw [hf]
  refine ⟨PA, k, kc, rs, A', n', c', by rw [e1], e2.symm, h1, ?_, h3, h4, h5⟩
  rw [e1]
  cases cl with
  | true => rw [hr rfl] at h2; exact h2
  | false =>
    have e3 : (Fr.frV (xs ++ zs)).2.1 = rest := by rw [hf]; rfl
    rw [if_neg (by simp), e3]; exact h2

theorem door_ret {w wd : World} {B x pb rb : Nat} {A PA : Option Addr} {k kc : Nat} {rs : List Row} {A2 : Option Addr} {n2 c2 : Nat} {rest xs zs : List Nat} {cl : Bool} (h : Door w wd B x pb rb A PA k kc rs A2 n2 c2 rest cl) (hn : n2 ≤ 211106232532992)
    (hf : Fr.frV (xs ++ zs) = (rs.map (·.p), if cl then (Fr.frV (xs ++ zs)).2.1 else rest, cl)) (hr : cl = true → rest = []) (v : Int) (hv : v = if cl then 12 else 0) (tmps : Array Value) (t4 : tmps[4]? = some (.pointer (some ⟨pb, 0, none⟩))) (t5 : tmps[5]? = some (.int .i64 v)) :
    Leaves Try.prog Try.f38 tmps (FeedE w B rb A xs zs) [{ target := .fn (.func 87) #[.pointer (some ⟨x, 0, none⟩), .pointer (some ⟨pb, 0, none⟩)], args := #[] }] .returning wd := by
  refine leaves_cons (f := 87) (args := #[.pointer (some ⟨x, 0, none⟩), .pointer (some ⟨pb, 0, none⟩)]) (by simp) (by simp [go_sem]) ?_
  refine (fin_ret h.x_ h.p_ rfl (Lib.hid (door_shr h hn))).mono ?_
  rintro e u' w' ⟨rfl, rfl, ht⟩
  refine ⟨.tuple #[.slice PA k kc, .int .i64 v], ?_, ht.fin hf hr v hv⟩
  obtain ⟨_, _, _, _, _, _, _, _, hc⟩ := ht
  have c0 := hc.cell 0 _ rfl
  simp [results, Try.results38, go_sem, t4, t5, c0]
theorem door_pan {w wd : World} {B x pb rb : Nat} {A PA : Option Addr} {k kc : Nat} {rs : List Row} {A2 : Option Addr} {n2 c2 : Nat} {rest xs zs : List Nat} {cl : Bool} (h : Door w wd B x pb rb A PA k kc rs A2 n2 c2 rest cl) (hn : n2 ≤ 211106232532992)
    (hf : Fr.frV (xs ++ zs) = (rs.map (·.p), if cl then (Fr.frV (xs ++ zs)).2.1 else rest, cl)) (hr : cl = true → rest = []) (v : Int) (hv : v = if cl then 12 else 0) (tmps : Array Value) (t4 : tmps[4]? = some (.pointer (some ⟨pb, 0, none⟩))) (t5 : tmps[5]? = some (.int .i64 v)) (u : TypeId) (pv : Value) :
    Leaves Try.prog Try.f38 tmps (FeedE w B rb A xs zs) [{ target := .fn (.func 87) #[.pointer (some ⟨x, 0, none⟩), .pointer (some ⟨pb, 0, none⟩)], args := #[] }] (.panicking [{ v := .iface u pv, recovered := false }]) wd := by
  refine leaves_cons (f := 87) (args := #[.pointer (some ⟨x, 0, none⟩), .pointer (some ⟨pb, 0, none⟩)]) (by simp) (by simp [go_sem]) ?_
  refine (fin_pan u pv [] h.x_ h.p_ rfl (Lib.hid (door_shr h hn))).mono ?_
  rintro e u' w' ⟨rfl, rfl, ht⟩
  show Leaves _ _ _ _ [] _ _
  simp only [settle, List.dropWhile_nil]
  refine ⟨.tuple #[.slice PA k kc, .int .i64 v], ?_, ht.fin hf hr v hv⟩
  obtain ⟨_, _, _, _, _, _, _, _, hc⟩ := ht
  have c0 := hc.cell 0 _ rfl
  simp [results, Try.results38, go_sem, t4, t5, c0]

/-- What holds at the head of each round of Feed's loop. -/
def FeI (w7 : World) (x pb sb rb : Nat) (A1 : Option Addr) (n1 c1 : Nat) (ys : List Nat) (wr : World) : Prop :=
  ∃ A2 n2 c2 rest rs PA k kc, BlkL wr x [.pointer (some ⟨rb, 0, none⟩)] ∧ BlkL wr pb [.slice PA k kc] ∧ BlkL wr rb [.slice A2 n2 c2, .bool false] ∧ BlkL wr sb [.slice A2 n2 c2] ∧ Arg wr sb A2 n2 c2 rest ∧ PayL wr (sb + 1) PA k kc rs ∧
    Fr.frV ys = (rs.map (·.p) ++ (Fr.frV rest).1, (Fr.frV rest).2) ∧ Off [rb, pb, sb] w7 wr ∧ (rs = [] → A2 = A1 ∧ n2 = n1 ∧ c2 = c1 ∧ rest = ys) ∧ n2 ≤ n1 ∧ (∀ y ∈ bkV A2, y ∈ bkV A1)
theorem pay_info : (Try.prog.info? 22).map (fun i => (i.zero, i.size, i.bytes)) = some (some (.slice none 0 0), 1, 24) := by kernel_rfl
theorem Off.new {S S' : List Nat} {w w1 w2 : World} (h : Off S w w1) (k : Off S' w1 w2) (hs : ∀ y ∈ S', y ∈ S ∨ w.heap.size ≤ y) : Off S w w2 :=
  ⟨k.os.trans h.os, k.tape.trans h.tape, k.output.trans h.output, Nat.le_trans h.size k.size, fun i hi hn => (k.block i (Nat.lt_of_lt_of_le hi h.size) (fun hm => (hs i hm).elim hn (fun h => by omega))).trans (h.block i hi hn)⟩
/-- What is known ahead of the loop. -/
structure FeB (w w7 : World) (B sb rb : Nat) (A A1 : Option Addr) (n1 c1 : Nat) (ys : List Nat) : Prop where
  x7 : BlkL w7 w.heap.size [.pointer (some ⟨rb, 0, none⟩)]
  p7 : BlkL w7 (w.heap.size + 1) [.slice none 0 0]
  r7 : BlkL w7 rb [.slice A1 n1 c1, .bool false]
  s7 : BlkL w7 sb [.slice A1 n1 c1]
  o7 : OwnV w7 B A1 n1 c1 (ys.map V8)
  f7 : Off (rb :: bkV A) w w7
  z7 : w7.heap.size = sb + 1
  lt : rb < w.heap.size ∧ w.heap.size + 2 ≤ sb ∧ B ≤ w.heap.size
  g7 : ∀ y ∈ bkV A1, (y ∈ bkV A ∨ y = w.heap.size + 2) ∧ y < sb
  gA : ∀ y ∈ bkV A, y < w.heap.size
  ne : rb ∉ bkV A1
  byte : ∀ d ∈ ys, d < 256
theorem FeB.arg {w w7 : World} {B sb rb : Nat} {A A1 : Option Addr} {n1 c1 : Nat} {ys : List Nat} (h : FeB w w7 B sb rb A A1 n1 c1 ys) : Arg w7 sb A1 n1 c1 ys := h.o7.arg h.byte fun y hy => (h.g7 y hy).2
theorem FeB.start {w w7 : World} {B sb rb : Nat} {A A1 : Option Addr} {n1 c1 : Nat} {ys : List Nat} (h : FeB w w7 B sb rb A A1 n1 c1 ys) : FeI w7 w.heap.size (w.heap.size + 1) sb rb A1 n1 c1 ys w7 :=
  ⟨A1, n1, c1, ys, [], none, 0, 0, h.x7, h.p7, h.r7, h.s7, h.arg, PayL.nil _ _, by simp, Off.refl _ _, (fun _ => ⟨rfl, rfl, rfl, rfl⟩), Nat.le_refl _, fun y hy => hy⟩
section
variable {w w7 wr wd : World} {B sb rb : Nat} {A A1 : Option Addr} {n1 c1 : Nat} {ys : List Nat} {A2 PA : Option Addr} {n2 c2 k kc : Nat} {rest : List Nat} {rs : List Row}
theorem FeB.off2 (h : FeB w w7 B sb rb A A1 n1 c1 ys) (i8 : Off [rb, w.heap.size + 1, sb] w7 wr) : Off (rb :: bkV A) w wr := h.f7.new i8 fun y hy => by
  have := h.lt
  simp only [List.mem_cons, List.not_mem_nil, or_false] at hy ⊢
  rcases hy with rfl | rfl | rfl
  · exact .inl (.inl rfl)
  · exact .inr (by omega)
  · exact .inr (by omega)
/-- The door, where what waits stays. -/
theorem FeB.door (h : FeB w w7 B sb rb A A1 n1 c1 ys) (i1 : BlkL wr w.heap.size [.pointer (some ⟨rb, 0, none⟩)]) (i2 : BlkL wr (w.heap.size + 1) [.slice PA k kc]) (i3 : BlkL wr rb [.slice A2 n2 c2, .bool false]) (i5 : Arg wr sb A2 n2 c2 rest)
    (i6 : PayL wr (sb + 1) PA k kc rs) (i8 : Off [rb, w.heap.size + 1, sb] w7 wr) (i9 : rs = [] → A2 = A1 ∧ n2 = n1 ∧ c2 = c1 ∧ rest = ys) (hd : Off [sb] wr wd) :
    Door w wd B w.heap.size (w.heap.size + 1) rb A PA k kc rs A2 n2 c2 rest false := by
  have hl := h.lt
  have hz := h.z7
  have h8 := i8.size
  have hds := hd.size
  have i8d : Off [rb, w.heap.size + 1, sb] w7 wd := i8.trans (hd.mono (by simp))
  refine ⟨i1.off hd (by simp; omega), i2.off hd (by simp; omega), i3.off hd (by simp; omega), ?_, (i6.mono (by omega)).off hd (fun y hy hs => ?_), fun hy => ?_, fun hk => ?_, h.off2 i8d, by omega⟩
  · exact (i5.below (hd.below (by omega) (by simp))).more (by omega)
  · have := (i6.lt y hy).1; simp at hs; omega
  · have := (i6.lt _ hy).1; omega
  · obtain ⟨rfl, rfl, rfl, rfl⟩ := i9 (List.eq_nil_of_length_eq_zero (by rw [i6.len]; exact hk))
    refine ⟨h.o7.off i8d fun y hy hs => ?_, h.ne, fun y hy => ?_, fun y hy hs => ?_⟩
    · have := h.g7 y hy
      have h2 := h.gA
      simp only [List.mem_cons, List.not_mem_nil, or_false] at hs
      rcases hs with rfl | rfl | rfl
      · exact h.ne hy
      · rcases this.1 with h3 | h3
        · have := h2 _ h3; omega
        · omega
      · omega
    · rcases (h.g7 y hy).1 with h3 | h3
      · exact .inl h3
      · exact .inr (by omega)
    · have := (i6.lt _ hs).1; have := (h.g7 y hy).2; omega
/-- The door, where all is closed. -/
theorem FeB.shut (h : FeB w w7 B sb rb A A1 n1 c1 ys) (i1 : BlkL wr w.heap.size [.pointer (some ⟨rb, 0, none⟩)]) (i2 : BlkL wr (w.heap.size + 1) [.slice PA k kc]) (i3 : BlkL wr rb [.slice A2 n2 c2, .bool false])
    (i6 : PayL wr (sb + 1) PA k kc rs) (i8 : Off [rb, w.heap.size + 1, sb] w7 wr) (hd : Off [sb] wr wd) :
    Door w ((wd.setCell ⟨rb, 0, none⟩ (.slice none 0 0)).setCell ⟨rb, 1, none⟩ (.bool true)) B w.heap.size (w.heap.size + 1) rb A PA k kc rs none 0 0 [] true := by
  have hl := h.lt
  have hz := h.z7
  have h8 := i8.size
  have hds := hd.size
  have hc : Off [rb, sb] wr ((wd.setCell ⟨rb, 0, none⟩ (.slice none 0 0)).setCell ⟨rb, 1, none⟩ (.bool true)) := ((hd.mono (by simp)).setCell (p := ⟨rb, 0, none⟩) (by simp) _).setCell (p := ⟨rb, 1, none⟩) (by simp) _
  refine ⟨i1.off hc (by simp; omega), i2.off hc (by simp; omega), (i3.off hd (by simp; omega)).put2 _ _, Arg.nil _ _, (i6.mono (by omega)).off hc (fun y hy hs => ?_), fun hy => ?_, fun hk => ?_, h.off2 (i8.trans (hc.mono (by simp))), by omega⟩
  · have := (i6.lt y hy).1; simp at hs; omega
  · have := (i6.lt _ hy).1; omega
  · exact ⟨OwnV.nil _ _, by simp [bkV], by simp [bkV], by simp [bkV]⟩
end
def lenAt (w : World) (b : Nat) : Nat := match w.cell? ⟨b, 0, none⟩ with | some (.slice _ n _) => n | _ => 0

set_option maxHeartbeats 4000000 in
theorem feed_open (w : World) (B rb : Nat) (A : Option Addr) (n c : Nat) (xs : List Nat) (S : Option Addr) (m d : Nat) (zs : List Nat) (h : RdM w B rb A n c xs false) (ha : Arg w w.heap.size S m d zs) (hB : B ≤ w.heap.size)
    (hnm : n + m ≤ 211106232532992) (hk : (Fr.frV (xs ++ zs)).1.length * 24 ≤ 140737488355328) :
    Calls Try.prog 38 #[.pointer (some ⟨rb, 0, none⟩), .slice S m d] w (FeedE w B rb A xs zs) := by
  have hmf : ∀ (fn : Fn) (first cap : Array Value) (w : World), (Instr.makeFunc fn first cap).run Try.prog w = .ok (.func fn first cap) w := fun _ _ _ _ => rfl
  have h0 := h.blk.cell 0 _ rfl
  have h1 := h.blk.cell 1 _ rfl
  have hlt := h.blk.lt
  obtain ⟨i0, hi, hz0, hz1, hz2⟩ := info_parts u8_info
  have b2 : Below w.heap.size w ((w.alloc (.cells #[.pointer (some ⟨rb, 0, none⟩)] 48)).alloc (.cells #[.slice none 0 0] 46)) := ((Below.refl _ _).alloc (Nat.le_refl _) _).alloc (by simp) _
  have x2 : BlkL ((w.alloc (.cells #[.pointer (some ⟨rb, 0, none⟩)] 48)).alloc (.cells #[.slice none 0 0] 46)) w.heap.size [.pointer (some ⟨rb, 0, none⟩)] := (BlkL.new w [.pointer (some ⟨rb, 0, none⟩)] 48).alloc _
  have p2 : BlkL ((w.alloc (.cells #[.pointer (some ⟨rb, 0, none⟩)] 48)).alloc (.cells #[.slice none 0 0] 46)) (w.heap.size + 1) [.slice none 0 0] := by
    have := BlkL.new (w.alloc (.cells #[.pointer (some ⟨rb, 0, none⟩)] 48)) [.slice none 0 0] 46
    rwa [World.size_alloc] at this
  have s2 : ((w.alloc (.cells #[.pointer (some ⟨rb, 0, none⟩)] 48)).alloc (.cells #[.slice none 0 0] 46)).heap.size = w.heap.size + 2 := by simp
  have HN : Hid (S = none → d = 0) := Lib.hid fun e => (ha.none_ e).2
  have HL := Lib.hid h.len
  have HZ := Lib.hid ha.len
  have HBY : Hid (∀ y ∈ xs ++ zs, y < 256) := Lib.hid fun y hy => (List.mem_append.1 hy).elim (h.byte y) (ha.byte y)
  have HNE := Lib.hid h.ne
  have HAL : Hid (∀ y ∈ bkV A, y < w.heap.size) := Lib.hid fun y hy => (h.own.lt y hy).2
  have HR2 := Lib.hid (h.below b2)
  have HSR := Lib.hid (ha.below b2).src
  have HB2 := Lib.hid b2
  have HX2 := Lib.hid x2
  have HP2 := Lib.hid p2
  have HS2 := Lib.hid s2
  have HBB := Lib.hid hB
  have HK := Lib.hid hk
  clear h ha b2 x2 p2 s2 hB hk
  go_enter_defers Try.func38, Try.ntmps38
  go_wp2
  clear h0 h1
  generalize ((w.alloc (.cells #[.pointer (some ⟨rb, 0, none⟩)] 48)).alloc (.cells #[.slice none 0 0] 46)) = w2 at *
  have c0 := HR2.out.blk.drew.cell 0 _ rfl
  have cx := HX2.out.drew.cell 0 _ rfl
  have hsz2 := HS2.out
  have lx2 : w.heap.size < w2.drew.heap.size := by show w.heap.size < w2.heap.size; omega
  have lr2 : rb < w2.drew.heap.size := by show rb < w2.heap.size; omega
  have HSZ2 := Lib.hid hsz2
  have hxn : w.heap.size ∉ bkV A := fun hy => by have := HAL.out _ hy; omega
  have hBw2 : B ≤ w2.drew.heap.size := by show B ≤ w2.heap.size; have := HBB.out; omega
  have HOW : Hid (OwnV w2.drew B A n c (xs.map V8)) := Lib.hid (HR2.out.own.off (S := []) ((Off.refl _ _).drew) (by simp))
  have HSRC : Hid (SrcV w2.drew S m (zs.map V8)) := Lib.hid ⟨HSR.out.len, HSR.out.none_, HSR.out.at_, HSR.out.one⟩
  have HXC := Lib.hid cx
  clear hsz2
  refine wp_only ?_
  go_region_law (first
    | (refine step_append_w Try.underlying22 hi hz0 hz1 hz2 rfl rfl (.tmp 19) (.tmp 20) rfl rfl HOW.out S m d (zs.map V8) rfl HSRC.out HN.out (by omega) (by omega) hBw2 ?_; intro A' c' w5 ho5 hf5 hg5; have cx5 := (hf5.cell (p := ⟨w.heap.size, 0, none⟩) lx2 hxn).trans HXC.out; have r5 := HR2.out.blk.drew.off hf5 HNE.out; have c05 := r5.cell 0 _ rfl; have f05 := r5.froz 0 (by simp); have l05 := r5.lt; have HR5 := Lib.hid r5; have HO5 := Lib.hid ho5; have HF5 := Lib.hid hf5; have HG5 := Lib.hid hg5; clear ho5 hf5 hg5 r5))
  all_goals
    dsimp only [OnlyN]
    clear cx5 c05 f05 c0 cx
    have hsz6 := HSZ2.out
    have hf5 := HF5.out
    have hsz5 : w.heap.size + 2 ≤ w5.heap.size := by have := hf5.size; have e : w2.drew.heap.size = w2.heap.size := rfl; omega
    have hg6 : ∀ y ∈ bkV A', y ∈ bkV A ∨ y = w.heap.size + 2 ∧ y < w5.heap.size := fun y hy => by
      rcases HG5.out y hy with h | ⟨h, h'⟩
      · exact .inl h
      · exact .inr ⟨by have e : w2.drew.heap.size = w2.heap.size := rfl; omega, h'⟩
    have hrn : rb ∉ bkV A' := fun hy => by
      rcases hg6 _ hy with h | ⟨h, _⟩
      · exact HNE.out h
      · omega
    have hrA : ∀ y ∈ bkV A, y < w.heap.size := HAL.out
    have hx5 := HX2.out.drew.off hf5 (fun hy => by have := hrA _ hy; omega)
    have hp5 := HP2.out.drew.off hf5 (fun hy => by have := hrA _ hy; omega)
    have x6 := hx5.other rb 0 (.slice A' (n + m) c') (by omega)
    have p6 := hp5.other rb 0 (.slice A' (n + m) c') (by omega)
    have r6 := HR5.out.set 0 (.slice A' (n + m) c') (by simp)
    have o6 : OwnV (w5.setCell ⟨rb, 0, none⟩ (.slice A' (n + m) c')) B A' (n + m) c' ((xs ++ zs).map V8) := by
      have := HO5.out.off ((Off.refl [rb] w5).setCell (p := ⟨rb, 0, none⟩) (by simp) (.slice A' (n + m) c')) (fun y hy hs => by simp at hs; subst hs; exact hrn hy)
      rwa [← List.map_append] at this
    have f6 : Off (rb :: bkV A) w (w5.setCell ⟨rb, 0, none⟩ (.slice A' (n + m) c')) :=
      (((Off.of_below HB2.out).drew).trans (hf5.mono (by intro y hy; exact List.mem_cons_of_mem _ hy))).setCell (p := ⟨rb, 0, none⟩) (by simp) _
    have s6 : w.heap.size + 2 ≤ (w5.setCell ⟨rb, 0, none⟩ (.slice A' (n + m) c')).heap.size := by simpa using hsz5
    have g6 : ∀ y ∈ bkV A', y ∈ bkV A ∨ y = w.heap.size + 2 ∧ y < (w5.setCell ⟨rb, 0, none⟩ (.slice A' (n + m) c')).heap.size := fun y hy => by simpa using hg6 y hy
    generalize w5.setCell ⟨rb, 0, none⟩ (.slice A' (n + m) c') = w6 at *
    have c06 := r6.cell 0 _ rfl
    have cx6 := x6.cell 0 _ rfl
    have X6 := Lib.hid x6
    have P6 := Lib.hid p6
    have R6 := Lib.hid r6
    have O6 := Lib.hid o6
    have F6 := Lib.hid f6
    have S6 := Lib.hid s6
    have G6 := Lib.hid g6
    have HRN := Lib.hid hrn
    clear x6 p6 r6 o6 f6 s6 g6 hg6 hrn hx5 hp5 hf5 hsz5 hsz6 HO5 HF5 HG5 HR5 HR2 HSR HB2 HX2 HP2 HS2 HSZ2 HOW HSRC HXC lx2 lr2 hxn hBw2 l05 hrA
    go_wp2_with (with_reducible refine (pread_any _ _ _ _).mono ?_)
    rintro e w7 ⟨rfl, rfl⟩
    go_wp2
    have hfb : FeB w (w6.alloc (.cells #[.slice A' (n + m) c'] 167)) B w6.heap.size rb A A' (n + m) c' (xs ++ zs) :=
      ⟨X6.out.alloc _, P6.out.alloc _, R6.out.alloc _, BlkL.new w6 [.slice A' (n + m) c'] _, O6.out.below ((Below.refl _ _).alloc (Nat.le_refl _) _), F6.out.alloc _, by simp, ⟨hlt, S6.out, HBB.out⟩, fun y hy => by
        rcases G6.out y hy with h | ⟨h, h'⟩
        · have := HAL.out y h; have := S6.out; exact ⟨.inl h, by omega⟩
        · exact ⟨.inr h, h'⟩, HAL.out, HRN.out, HBY.out⟩
    have hlen : (xs ++ zs).length = n + m := by rw [List.length_append, HL.out, HZ.out]
    generalize w6.alloc (.cells #[.slice A' (n + m) c'] 167) = w7 at *
    generalize w6.heap.size = sb at *
    clear X6 P6 R6 O6 F6 S6 G6 HRN HAL HBY HBB HL HZ HN HNE c06 cx6
    have HFB := Lib.hid hfb
    have HLEN := Lib.hid hlen
    clear hfb hlen
    generalize hN : n + m = N at *
    generalize hY : xs ++ zs = ys at *
    have HY := Lib.hid hY
    clear hN hY
    go_loopw [5] (fun ov wr => ov = .int .i64 0 ∧ FeI w7 w.heap.size (w.heap.size + 1) sb rb A' N c' ys wr) (fun _ wr => lenAt wr sb)
    case atStart => exact ⟨rfl, HFB.out.start⟩
    case round =>
      obtain ⟨rfl, A2, n2, c2, rest, rs, PA, k, kc, i1, i2, i3, i4, i5, i6, i7, i8, i9, i10, i11⟩ := hrel
      have hl := HFB.out.lt
      have cx := i1.cell 0 _ rfl
      have cp := i2.cell 0 _ rfl
      have fp := i2.froz 0 (by simp)
      have c0 := i3.cell 0 _ rfl
      have I1 := Lib.hid i1
      have I2 := Lib.hid i2
      have I3 := Lib.hid i3
      have I4 := Lib.hid i4
      have I5 := Lib.hid i5
      have I6 := Lib.hid i6
      have I7 := Lib.hid i7
      have I8 := Lib.hid i8
      have I9 := Lib.hid i9
      have HL5 := Lib.hid i5.len
      have I10 := Lib.hid i10
      have I11 := Lib.hid i11
      clear i11 i10 i1 i2 i3 i4 i5 i6 i7 i8 i9
      by_cases hn0 : n2 = 0
      · subst hn0
        have hd := HFB.out.door I1.out I2.out I3.out I5.out I6.out I8.out I9.out (Off.refl [sb] wr)
        have HD := Lib.hid hd
        clear hd
        have hr0 : rest = [] := List.eq_nil_of_length_eq_zero HL5.out
        have hfr : Fr.frV ys = (rs.map (·.p), if false = true then (Fr.frV ys).2.1 else rest, false) := by
          rw [if_neg (by simp), I7.out, hr0, Fr.fr_nil]; simp
        have HFR := Lib.hid hfr
        clear hfr hr0
        go_wp2
        rw [setCell_id (I2.out.cell 0 _ rfl)]
        exact door_ret HD.out (by have := I10.out; omega) (by rw [HY.out]; exact HFR.out) (by simp) 0 (by simp) _ rfl rfl
      · have hpos : decide (0 < n2) = true := by simp; omega
        have hn2 := I10.out
        have HN2 : Hid (n2 ≤ 211106232532992) := Lib.hid (by omega)
        clear hn2
        by_cases hs4 : n2 < 4
        · have hd := HFB.out.door I1.out I2.out I3.out I5.out I6.out I8.out I9.out (Off.refl [sb] wr)
          have HD := Lib.hid hd
          have hfr : Fr.frV ys = (rs.map (·.p), if false = true then (Fr.frV ys).2.1 else rest, false) := by
            rw [if_neg (by simp), I7.out, Fr.fr_short (by rw [HL5.out]; exact hs4)]; simp
          have HFR := Lib.hid hfr
          have HNX := Lib.hid (next_short wr sb A2 n2 c2 I4.out hs4)
          clear hd hfr hs4
          go_wp2_with (with_reducible refine (HNX.out).mono ?_)
          rintro e w' ⟨rfl, rfl⟩
          exact door_pan HD.out HN2.out (by rw [HY.out]; exact HFR.out) (by simp) 0 (by simp) _ rfl rfl _ _
        · by_cases hbad : Fr.sizeV rest < 1 ∨ 4096 < Fr.sizeV rest
          · have hfr : Fr.frV ys = (rs.map (·.p), if true = true then (Fr.frV ys).2.1 else [], true) := by
              rw [if_pos rfl, I7.out, Fr.fr_bad (by rw [HL5.out]; omega) hbad]; simp
            have HFR := Lib.hid hfr
            have HNX := Lib.hid (next_bad wr sb A2 n2 c2 rest I4.out I5.out (by omega) hbad)
            clear hfr hs4 hbad
            go_wp2_with (with_reducible refine (HNX.out).mono ?_)
            rintro e w1 ⟨rfl, ho⟩
            have hd := HFB.out.shut I1.out I2.out I3.out I6.out I8.out ho
            have cx1 := (I1.out.off ho (by simp; omega)).cell 0 _ rfl
            have HCL := Lib.hid (close_any w1 rb _ false (I3.out.off ho (by simp; omega)))
            have HD := Lib.hid hd
            clear hd ho cx cp c0 fp
            go_wp2_with (with_reducible refine (HCL.out).mono ?_)
            rintro e w2 ⟨rfl, rfl⟩
            have cp2 := HD.out.p_.cell 0 _ rfl
            have hp2 := HD.out.p_.lt
            have fp2 := HD.out.p_.froz 0 (by simp)
            generalize (w1.setCell ⟨rb, 0, none⟩ (.slice none 0 0)).setCell ⟨rb, 1, none⟩ (.bool true) = w8 at *
            go_wp2
            rw [setCell_id (HD.out.p_.cell 0 _ rfl)]
            exact door_ret HD.out (by omega) (by rw [HY.out]; exact HFR.out) (by simp) 12 (by simp) _ rfl rfl
          · by_cases hsh : n2 < 4 + Fr.sizeV rest
            · have hfr : Fr.frV ys = (rs.map (·.p), if false = true then (Fr.frV ys).2.1 else rest, false) := by
                rw [if_neg (by simp), I7.out, Fr.fr_part (by rw [HL5.out]; omega) hbad (by rw [HL5.out]; exact hsh)]; simp
              have HFR := Lib.hid hfr
              have HNX := Lib.hid (next_part wr sb A2 n2 c2 rest I4.out I5.out (by omega) hbad hsh)
              clear hfr hs4 hbad hsh
              go_wp2_with (with_reducible refine (HNX.out).mono ?_)
              rintro e w1 ⟨rfl, ho⟩
              exact door_pan (HFB.out.door I1.out I2.out I3.out I5.out I6.out I8.out I9.out ho) HN2.out (by rw [HY.out]; exact HFR.out) (by simp) 0 (by simp) _ rfl rfl _ _
            · have hw := Fr.fr_whole (l := rest) hbad (by rw [HL5.out]; omega)
              have HW := Lib.hid hw
              have HNX := Lib.hid (next_whole wr sb A2 n2 c2 rest I4.out I5.out hbad (by omega))
              have HSZ : Hid (1 ≤ Fr.sizeV rest ∧ 4 + Fr.sizeV rest ≤ n2) := Lib.hid ⟨by omega, by omega⟩
              clear hw hs4 hbad hsh
              go_wp2_with (with_reducible refine (HNX.out).mono ?_)
              rintro e w1 ⟨g, pc, A3, c3, rfl, o1, s1, a1, hb3, ho⟩
              have HB3 := Lib.hid hb3
              clear hb3
              have hw := HW.out
              have hsz := HSZ.out
              have hwr : sb < wr.heap.size := I4.out.lt
              have hz7 := HFB.out.z7
              have hw7 := I8.out.size
              have hs1 := ho.size
              have hg := o1.lt g (by simp [bkV])
              have hpl : k + 1 ≤ (Fr.frV ys).1.length := by rw [I7.out, hw]; simp only [List.length_append, List.length_map, List.length_cons]; rw [I6.out.len]; omega
              have hk24 := HK.out
              have x1 := I1.out.off ho (by simp; omega)
              have p1 := I2.out.off ho (by simp; omega)
              have r1 := I3.out.off ho (by simp; omega)
              have y1 := I6.out.off ho (fun y hy hs => by have := (I6.out.lt y hy).1; simp at hs; omega)
              -- the block of the one payload
              have bl : BlkL (w1.alloc (.cells #[.slice (some ⟨g, 0, none⟩) (Fr.sizeV rest) pc] 22)) w1.heap.size [.slice (some ⟨g, 0, none⟩) (Fr.sizeV rest) pc] := BlkL.new w1 _ _
              have src : SrcV (w1.alloc (.cells #[.slice (some ⟨g, 0, none⟩) (Fr.sizeV rest) pc] 22)) (some ⟨w1.heap.size, 0, none⟩) 1 [.slice (some ⟨g, 0, none⟩) (Fr.sizeV rest) pc] :=
                ⟨rfl, (fun e => by cases e), fun ad e j u hu => by cases e; rw [add_litV, Nat.zero_add]; exact bl.cell j u hu, by simp [Value.oneCell']⟩
              have SRC := Lib.hid src
              have Y2 := Lib.hid (y1.below ((Below.refl _ _).alloc (Nat.le_refl _) (.cells #[.slice (some ⟨g, 0, none⟩) (Fr.sizeV rest) pc] 22)))
              have hb1 : sb + 1 ≤ (w1.alloc (.cells #[.slice (some ⟨g, 0, none⟩) (Fr.sizeV rest) pc] 22)).heap.size := by simp; omega
              have hk2 : (k + 1) * 24 ≤ 140737488355328 := by omega
              have HK2 := Lib.hid hk2
              have HB1 := Lib.hid hb1
              have X1 := Lib.hid x1
              have P1 := Lib.hid p1
              have R1 := Lib.hid r1
              have Y1 := Lib.hid y1
              have O1 := Lib.hid o1
              have S1 := Lib.hid s1
              have A1 := Lib.hid a1
              have HO := Lib.hid ho
              have HG := Lib.hid hg
              have HWR := Lib.hid (And.intro hwr (And.intro hz7 (And.intro hw7 hs1)))
              have cx1 := x1.cell 0 _ rfl
              have cp1 := p1.cell 0 _ rfl
              obtain ⟨j0, hj, hjz, hj1, hj2⟩ := info_parts pay_info
              clear x1 p1 r1 y1 o1 s1 a1 ho hg hwr hz7 hw7 hs1 hpl hk24 bl src hb1 hk2 hw hsz cx cp c0 fp
              go_wp2_with (refine wpList_append_a Try.underlying46 hj hjz hj1 hj2 rfl rfl (.tmp 46) (.tmp 48) rfl rfl Y2.out.own (some ⟨w1.heap.size, 0, none⟩) 1 1 [.slice (some ⟨g, 0, none⟩) (Fr.sizeV rest) pc] rfl SRC.out (fun e => by cases e) (by omega) HK2.out HB1.out ?_)
              intro PA' kc' w3 o3 f3 g3
              have hwr := HWR.out
              have hg := HG.out
              have rok : RowOk w1 (sb + 1) ⟨g, Fr.sizeV rest, pc, (rest.drop 4).take (Fr.sizeV rest)⟩ := ⟨O1.out.mono (by omega), fun d hd => I5.out.byte d (List.mem_of_mem_drop (List.mem_of_mem_take hd))⟩
              have bel : Below w1.heap.size w1 (w1.alloc (.cells #[.slice (some ⟨g, 0, none⟩) (Fr.sizeV rest) pc] 22)) := (Below.refl _ _).alloc (Nat.le_refl _) _
              have rok2 : RowOk (w1.alloc (.cells #[.slice (some ⟨g, 0, none⟩) (Fr.sizeV rest) pc] 22)) (sb + 1) ⟨g, Fr.sizeV rest, pc, (rest.drop 4).take (Fr.sizeV rest)⟩ := rok.off (S := []) (Off.of_below bel) (by simp)
              have hgn : g ∉ blkP PA rs := fun hm => by have := (I6.out.lt _ hm).2; omega
              have y3 := Y2.out.push rok2 hgn o3 f3 (fun y hy => by rw [World.size_alloc]; exact g3 y hy)
              have hpa : ∀ y ∈ bkV PA, sb + 1 ≤ y := fun y hy => (Y1.out.lt y (List.mem_append.2 (.inl hy))).1
              have x3 := (X1.out.below bel).off f3 (fun hy => by have := hpa _ hy; omega)
              have p3 := (P1.out.below bel).off f3 (fun hy => by have := hpa _ hy; omega)
              have r3 := (R1.out.below bel).off f3 (fun hy => by have := hpa _ hy; omega)
              have s3 := (S1.out.below bel).off f3 (fun hy => by have := hpa _ hy; omega)
              have hsz1 := bel.size
              have fr3 : Off [rb, w.heap.size + 1, sb] w7 w3 := ((I8.out.trans (HO.out.mono (by simp))).trans (Off.of_below bel)).new f3 (fun y hy => .inr (by have := hpa y hy; omega))
              have a3 : Arg w3 sb A3 (n2 - (4 + Fr.sizeV rest)) c3 (rest.drop (4 + Fr.sizeV rest)) := (A1.out.keep bel (by omega)).below (f3.below (by omega) (fun y hy => by have := hpa y hy; omega))
              have cp3 := p3.cell 0 _ rfl
              have fp3 := p3.froz 0 (by simp)
              -- behind both stores
              have x4 := x3.other (w.heap.size + 1) 0 (.slice PA' (k + 1) kc') (by omega)
              have p4 := p3.set 0 (.slice PA' (k + 1) kc') (by simp)
              have r4 := r3.other (w.heap.size + 1) 0 (.slice PA' (k + 1) kc') (by omega)
              have s4 := s3.other (w.heap.size + 1) 0 (.slice PA' (k + 1) kc') (by omega)
              have of4 : Off [w.heap.size + 1] w3 (w3.setCell ⟨w.heap.size + 1, 0, none⟩ (.slice PA' (k + 1) kc')) := (Off.refl _ _).setCell (p := ⟨w.heap.size + 1, 0, none⟩) (by simp) _
              have fr4 : Off [rb, w.heap.size + 1, sb] w7 (w3.setCell ⟨w.heap.size + 1, 0, none⟩ (.slice PA' (k + 1) kc')) := fr3.trans (of4.mono (by simp))
              have y4 := y3.keep of4 (by simp; omega)
              have hA3 : ∀ y ∈ bkV A3, y ∉ [rb, w.heap.size + 1] := fun y hy => by
                have h1 := I11.out y (HB3.out y hy)
                have h2 := HFB.out.g7 y h1
                have h3 := HFB.out.gA
                have h4 := HFB.out.ne
                simp only [List.mem_cons, List.not_mem_nil, or_false]
                rintro (rfl | rfl)
                · exact h4 h1
                · rcases h2.1 with h | h
                  · have := h3 _ h; omega
                  · omega
              have hz3 : sb < w3.heap.size := s3.lt
              have a4 := a3.off (by omega) of4 (fun y hy => by have := hA3 y hy; simp at this ⊢; omega)
              have hz4 : sb < (w3.setCell ⟨w.heap.size + 1, 0, none⟩ (.slice PA' (k + 1) kc')).heap.size := by simpa using hz3
              have X4 := Lib.hid x4
              have P4 := Lib.hid p4
              have R4 := Lib.hid r4
              have S4 := Lib.hid s4
              have F4 := Lib.hid fr4
              have Y4 := Lib.hid y4
              have A4 := Lib.hid a4
              have Z4 := Lib.hid hz4
              have HA3 := Lib.hid hA3
              clear x4 p4 r4 s4 fr4 y4 a4 hz4 hA3 of4 fr3 x3 p3 r3 s3 a3 y3 hpa hgn rok rok2 bel hz3 f3 o3 g3 hsz1 cx1 cp1 hg hwr
              go_wp2_with fail
              generalize w3.setCell ⟨w.heap.size + 1, 0, none⟩ (.slice PA' (k + 1) kc') = w4 at *
              have hn3 : n2 - (4 + Fr.sizeV rest) < n2 := by have := HSZ.out; omega
              have hrest : (rest.drop (4 + Fr.sizeV rest)).length = n2 - (4 + Fr.sizeV rest) := by rw [List.length_drop, HL5.out]
              have of5 : Off [rb] w4 (w4.drew.setCell ⟨rb, 0, none⟩ (.slice A3 (n2 - (4 + Fr.sizeV rest)) c3)) := ((Off.refl _ _).drew).setCell (p := ⟨rb, 0, none⟩) (by simp) _
              have he : FeI w7 w.heap.size (w.heap.size + 1) sb rb A' N c' ys (w4.drew.setCell ⟨rb, 0, none⟩ (.slice A3 (n2 - (4 + Fr.sizeV rest)) c3)) := by
                refine ⟨A3, n2 - (4 + Fr.sizeV rest), c3, rest.drop (4 + Fr.sizeV rest), rs ++ [⟨g, Fr.sizeV rest, pc, (rest.drop 4).take (Fr.sizeV rest)⟩], PA', k + 1, kc', ?_, ?_, ?_, ?_, ?_, ?_, ?_, ?_, ?_, ?_, ?_⟩
                · exact X4.out.off of5 (by simp; omega)
                · exact P4.out.off of5 (by simp; omega)
                · exact R4.out.drew.set 0 _ (by simp)
                · exact S4.out.off of5 (by simp; omega)
                · exact A4.out.off (Nat.le_of_lt Z4.out) of5 (fun y hy => by have := HA3.out y hy; simp at this ⊢; omega)
                · exact Y4.out.keep of5 (by simp; omega)
                · rw [I7.out, HW.out]; simp
                · exact F4.out.trans (of5.mono (by simp))
                · intro e; simp at e
                · have := I10.out; omega
                · exact fun y hy => I11.out y (HB3.out y hy)
              have hm : lenAt (w4.drew.setCell ⟨rb, 0, none⟩ (.slice A3 (n2 - (4 + Fr.sizeV rest)) c3)) sb < lenAt wr sb := by
                have e1 : lenAt wr sb = n2 := by unfold lenAt; rw [I4.out.cell 0 _ rfl]
                have e2 : lenAt (w4.drew.setCell ⟨rb, 0, none⟩ (.slice A3 (n2 - (4 + Fr.sizeV rest)) c3)) sb = n2 - (4 + Fr.sizeV rest) := by
                  unfold lenAt; rw [(S4.out.off of5 (by simp; omega)).cell 0 _ rfl]
                rw [e1, e2]; exact hn3
              have HE := Lib.hid he
              have HM := Lib.hid hm
              have HRS := Lib.hid (prest_any w4.drew sb A3 _ c3 S4.out.drew)
              have cxd := X4.out.drew.cell 0 _ rfl
              have crd := R4.out.drew.cell 0 _ rfl
              have frd := R4.out.drew.froz 0 (by simp)
              have lrd := R4.out.drew.lt
              clear he hm of5 hn3 hrest cp3 fp3 hn0 hpos
              refine wp_only ?_
              go_region_with ((go_at_call 90; refine (HRS.out).mono ?_; rintro e w' ⟨rfl, rfl⟩))
              all_goals
                dsimp only [OnlyN]
                go_roundw
                case rel => first | exact ⟨rfl, HE.out⟩ | ((repeat apply Exists.intro); exact ⟨⟨rfl, HE.out⟩, rfl⟩)
                case measure => exact HM.out
end Go.Proofs.Ytndgladfcogiiaa
