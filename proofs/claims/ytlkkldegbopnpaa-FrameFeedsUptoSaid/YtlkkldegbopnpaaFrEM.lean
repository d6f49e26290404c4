/- What the law FrameFeeds keeps; Encode, Feed, End of both sides, open or closed. -/
import Derived.Test.YtlkkldegbopnpaaFrDB
namespace Go.Proofs.Ytlkkldegbopnpaa
open Go.RowKit
set_option maxRecDepth 100000
set_option linter.unusedVariables false

/-- The error of Encode. -/
def encE20 (n : Nat) : Int := if n = 0 then 3 else if 4096 < n then 2 else 0
def encB (zs : List Nat) : List Nat := if 1 ≤ zs.length ∧ zs.length ≤ 4096 then Fr.encV zs else []
def EncG (w : World) (zs : List Nat) (e : Ending) (w' : World) : Prop :=
  ∃ XA xn xc, e = .returned (.tuple #[.slice XA xn xc, .int .i64 (encE20 zs.length)]) ∧ Arg w' w'.heap.size XA xn xc (encB zs) ∧ Below w.heap.size w w'
theorem encG_none {w : World} {zs : List Nat} (h : ¬ (1 ≤ zs.length ∧ zs.length ≤ 4096)) {v : Int} (hv : v = encE20 zs.length) : EncG w zs (.returned (.tuple #[.slice none 0 0, .int .i64 v])) w := by
  subst hv
  refine ⟨none, 0, 0, rfl, ?_, Below.refl _ _⟩
  unfold encB; rw [if_neg h]; exact Arg.nil _ _
theorem encG_some {w : World} {zs : List Nat} {n : Nat} (hl : zs.length = n) (h : 1 ≤ n ∧ n ≤ 4096) {e : Ending} {w' : World} (hb : NewB w (Fr.encV zs) (n + 4) e w') : EncG w zs e w' := by
  obtain ⟨XA, xc, rfl, ho, hb⟩ := hb
  refine ⟨XA, n + 4, xc, ?_, ?_, hb⟩
  · unfold encE20; rw [hl, if_neg (by omega), if_neg (by omega)]
  · unfold encB; rw [hl, if_pos h]; exact ho.arg
theorem fenc_any (w : World) (B : Nat) (A : Option Addr) (n c : Nat) (zs : List Nat) (h : Arg w B A n c zs) (hB : B ≤ w.heap.size) : Calls Try.prog 30 #[.slice A n c] w (EncG w zs) := by
  have hl := h.len
  rcases (by omega : n = 0 ∨ 4096 < n ∨ (1 ≤ n ∧ n ≤ 4096)) with hv | hv | hv
  · subst hv
    refine (fenc_none w A c).mono ?_
    rintro e w' ⟨rfl, rfl⟩
    exact encG_none (by omega) (by unfold encE20; rw [if_pos hl])
  · refine (fenc_long w A n c hv).mono ?_
    rintro e w' ⟨rfl, rfl⟩
    exact encG_none (by omega) (by unfold encE20; rw [if_neg (by omega), if_pos (by omega)])
  · exact (fenc_good w B A n c zs h hB hv.1 hv.2).mono fun e w' h => encG_some hl hv h
theorem dfenc_any (w : World) (B : Nat) (A : Option Addr) (n c : Nat) (zs : List Nat) (h : Arg w B A n c zs) (hB : B ≤ w.heap.size) : Calls Try.prog 31 #[.slice A n c] w (EncG w zs) := by
  have hl := h.len
  rcases (by omega : n = 0 ∨ 4096 < n ∨ (1 ≤ n ∧ n ≤ 4096)) with hv | hv | hv
  · subst hv
    refine (dfenc_none w A c).mono ?_
    rintro e w' ⟨rfl, rfl⟩
    exact encG_none (by omega) (by unfold encE20; rw [if_pos hl])
  · refine (dfenc_long w A n c hv).mono ?_
    rintro e w' ⟨rfl, rfl⟩
    exact encG_none (by omega) (by unfold encE20; rw [if_neg (by omega), if_pos (by omega)])
  · exact (dfenc_good w B A n c zs h hB hv.1 hv.2).mono fun e w' h => encG_some hl hv h

/-- Both readers side by side, in one world. -/
structure Fd (w wr : World) (rb db : Nat) (cl : Bool) (A : Option Addr) (n c : Nat) (A2 : Option Addr) (n2 c2 : Nat) (xs : List Nat) (told : Nat) : Prop where
  r : RdM wr w.heap.size rb A n c (if cl then [] else (Fr.frV xs).2.1) cl
  d : DdM wr w.heap.size db A2 n2 c2 xs told cl
  op : cl = false → (Fr.frV xs).2.2 = false ∧ told = (Fr.frV xs).1.length
  dj : rb ≠ db ∧ rb ∉ bkV A2 ∧ db ∉ bkV A ∧ ∀ y ∈ bkV A, y ∉ bkV A2
  b : Below w.heap.size w wr
  lt : w.heap.size ≤ rb ∧ w.heap.size ≤ db
section
variable {w wr w' : World} {rb db n c n2 c2 told : Nat} {cl : Bool} {A A2 : Option Addr} {xs : List Nat} {S : List Nat}
/-- The blocks of both readers. -/
def blkF (rb db : Nat) (A A2 : Option Addr) : List Nat := rb :: db :: (bkV A ++ bkV A2)
theorem Fd.ltS (h : Fd w wr rb db cl A n c A2 n2 c2 xs told) : ∀ y ∈ blkF rb db A A2, w.heap.size ≤ y ∧ y < wr.heap.size := by
  intro y hy
  unfold blkF at hy
  rcases List.mem_cons.1 hy with rfl | hy
  · exact ⟨h.lt.1, h.r.blk.lt⟩
  rcases List.mem_cons.1 hy with rfl | hy
  · exact ⟨h.lt.2, h.d.blk.lt⟩
  rcases List.mem_append.1 hy with hy | hy
  · exact h.r.own.lt y hy
  · exact h.d.own.lt y hy
theorem Fd.off (h : Fd w wr rb db cl A n c A2 n2 c2 xs told) (hf : Off S wr w') (hS : ∀ y ∈ S, w.heap.size ≤ y) (hd : ∀ y ∈ blkF rb db A A2, y ∉ S) : Fd w w' rb db cl A n c A2 n2 c2 xs told :=
  ⟨h.r.off hf (hd rb (by simp [blkF])) (fun y hy => hd y (by simp [blkF, hy])), h.d.off hf (hd db (by simp [blkF])) (fun y hy => hd y (by simp [blkF, hy])), h.op, h.dj, h.b.trans (hf.below h.b.size hS), h.lt⟩
theorem Fd.below (h : Fd w wr rb db cl A n c A2 n2 c2 xs told) (hb : Below wr.heap.size wr w') : Fd w w' rb db cl A n c A2 n2 c2 xs told := h.off (S := []) (Off.of_below hb) (by simp) (by simp)
theorem Fd.drewN (h : Fd w wr rb db cl A n c A2 n2 c2 xs told) (t : Nat) : Fd w (wr.drewN t) rb db cl A n c A2 n2 c2 xs told := h.below (below_drewN (Below.refl _ _) t)
end
/-- The error of a Feed, of an End. -/
def feE (cl bad : Bool) : Int := if cl then 13 else erV bad
def enE (cl : Bool) : Int := if cl then 13 else 0

/-- Feed of the program, in the midst of both. -/
def FdP (w wr : World) (rb db : Nat) (cl : Bool) (A A2 : Option Addr) (n2 c2 : Nat) (xs zs : List Nat) (told : Nat) (e : Ending) (w' : World) : Prop :=
  ∃ PA k kc rs A' n' c', e = .returned (.tuple #[.slice PA k kc, .int .i64 (feE cl (Fr.frV (xs ++ zs)).2.2)]) ∧ rs.map (·.p) = (if cl then [] else (Fr.frV (xs ++ zs)).1.drop told) ∧ PayL w' wr.heap.size PA k kc rs ∧
    RdM w' w.heap.size rb A' n' c' (if cl || (Fr.frV (xs ++ zs)).2.2 then [] else (Fr.frV (xs ++ zs)).2.1) (cl || (Fr.frV (xs ++ zs)).2.2) ∧
    DdM w' w.heap.size db A2 n2 c2 xs told cl ∧ (db ∉ bkV A' ∧ rb ∉ bkV A2 ∧ ∀ y ∈ bkV A', y ∉ bkV A2) ∧ (∀ y ∈ bkV A', y ∉ blkP PA rs) ∧ Off (rb :: bkV A) wr w' ∧ ∀ y ∈ bkV A', y ∈ bkV A ∨ wr.heap.size ≤ y
theorem fd_feed (w wr : World) (rb db : Nat) (cl : Bool) (A : Option Addr) (n c : Nat) (A2 : Option Addr) (n2 c2 : Nat) (xs : List Nat) (told : Nat) (S : Option Addr) (m d : Nat) (zs : List Nat) (h : Fd w wr rb db cl A n c A2 n2 c2 xs told) (ha : Arg wr wr.heap.size S m d zs) (hm : m ≤ 1048576) :
    Calls Try.prog 34 #[.pointer (some ⟨rb, 0, none⟩), .slice S m d] wr (FdP w wr rb db cl A A2 n2 c2 xs zs told) := by
  have hbs := h.b.size
  have hA : ∀ y ∈ rb :: bkV A, w.heap.size ≤ y ∧ y < wr.heap.size := fun y hy => h.ltS y (by unfold blkF; rcases List.mem_cons.1 hy with rfl | hy <;> simp [*])
  have hA2 : ∀ y ∈ rb :: bkV A, y ≠ db ∧ y ∉ bkV A2 := fun y hy => by
    rcases List.mem_cons.1 hy with rfl | hy
    · exact ⟨h.dj.1, h.dj.2.1⟩
    · exact ⟨fun e => h.dj.2.2.1 (e ▸ hy), h.dj.2.2.2 y hy⟩
  cases cl with
  | true =>
    refine (feed_closed wr rb _ (.slice S m d) h.r.blk).mono ?_
    rintro e w' ⟨rfl, hb⟩
    refine ⟨none, 0, 0, [], A, n, c, rfl, rfl, PayL.nil _ _, ?_, h.d.below hb, ⟨h.dj.2.2.1, h.dj.2.1, h.dj.2.2.2⟩, by simp [blkP, bkV], Off.of_below hb, fun y hy => .inl hy⟩
    exact h.r.below hb
  | false =>
    obtain ⟨o1, o2⟩ := h.op rfl
    have hr := h.r
    simp only [Bool.false_eq_true, if_false] at hr
    have hrl : (Fr.frV xs).2.1.length < 4100 := Fr.fr_rest_lt o1
    have hnl := hr.len
    have happ := Fr.fr_app xs zs o1
    have hcn := Fr.fr_count ((Fr.frV xs).2.1 ++ zs)
    rw [List.length_append, ha.len] at hcn
    refine (feed_v wr w.heap.size rb A n c (Fr.frV xs).2.1 S m d zs (Fr.frV ((Fr.frV xs).2.1 ++ zs)) rfl hr ha hbs (by omega) (by omega)).mono ?_
    rintro e w' ⟨PA, k, kc, rs, A', n', c', rfl, f2, f3, f4, f5, f6, f7⟩
    have e2 : (Fr.frV (xs ++ zs)).2 = (Fr.frV ((Fr.frV xs).2.1 ++ zs)).2 := by rw [happ]
    have e1 : (Fr.frV (xs ++ zs)).1.drop told = (Fr.frV ((Fr.frV xs).2.1 ++ zs)).1 := by rw [happ, o2]; simp
    refine ⟨PA, k, kc, rs, A', n', c', ?_, ?_, f3, ?_, ?_, ⟨?_, h.dj.2.1, ?_⟩, f7, f5, f6⟩
    · rw [e2]; rfl
    · rw [if_neg (by simp), e1]; exact f2
    · rw [e2]; simpa using f4
    · exact h.d.off f5 (fun hs => (hA2 _ hs).1 rfl) (fun y hy hs => (hA2 _ hs).2 hy)
    · intro hy
      rcases f6 _ hy with h1 | h1
      · exact h.dj.2.2.1 h1
      · have := h.d.blk.lt; omega
    · intro y hy hs
      rcases f6 _ hy with h1 | h1
      · exact h.dj.2.2.2 y h1 hs
      · have := (h.d.own.lt y hs).2; omega
/-- Feed of the document's reader. -/
def FdD (w wr : World) (db : Nat) (cl : Bool) (A2 : Option Addr) (xs zs : List Nat) (told : Nat) (e : Ending) (w' : World) : Prop :=
  ∃ LA k kc A' n' c', e = .returned (.tuple #[.slice LA k kc, .int .i64 (feE cl (Fr.frV (xs ++ zs)).2.2)]) ∧ ArgL w' w'.heap.size LA k kc (if cl then [] else (Fr.frV (xs ++ zs)).1.drop told) ∧
    DdM w' w.heap.size db A' n' c' (if cl then xs else xs ++ zs) (if cl then told else (Fr.frV (xs ++ zs)).1.length) (cl || (Fr.frV (xs ++ zs)).2.2) ∧ Off (db :: bkV A2) wr w' ∧ ∀ y ∈ bkV A', y ∈ bkV A2 ∨ wr.heap.size ≤ y
theorem fd_dfeed (w wr : World) (db : Nat) (cl : Bool) (A2 : Option Addr) (n2 c2 : Nat) (xs : List Nat) (told : Nat) (S : Option Addr) (m d : Nat) (zs : List Nat) (h : DdM wr w.heap.size db A2 n2 c2 xs told cl) (op : cl = false → (Fr.frV xs).2.2 = false ∧ told = (Fr.frV xs).1.length) (hB : w.heap.size ≤ wr.heap.size)
    (ha : Arg wr wr.heap.size S m d zs) (hm : n2 + m ≤ 29000000000000) :
    Calls Try.prog 35 #[.pointer (some ⟨db, 0, none⟩), .slice S m d] wr (FdD w wr db cl A2 xs zs told) := by
  cases cl with
  | true =>
    refine (dfeed_closed wr db _ _ (.slice S m d) h.blk).mono ?_
    rintro e w' ⟨rfl, rfl⟩
    exact ⟨none, 0, 0, A2, n2, c2, rfl, ⟨rfl, Nat.le_refl _, by simp [maxLen], fun _ => ⟨rfl, rfl⟩, fun h => absurd h (by omega)⟩, h, Off.refl _ _, fun y hy => .inl hy⟩
  | false =>
    obtain ⟨o1, o2⟩ := op rfl
    have happ := Fr.fr_app xs zs o1
    have ht : told ≤ (Fr.frV (xs ++ zs)).1.length := by rw [happ, o2]; simp
    refine (dfeed_open wr w.heap.size db A2 n2 c2 xs told S m d zs h ha hB hm ht).mono ?_
    rintro e w' ⟨LA, k, kc, A', n', c', rfl, h1, h2, h3, h4⟩
    exact ⟨LA, k, kc, A', n', c', rfl, h1, by simpa using h2, h3, h4⟩
/-- Both behind a Feed. -/
theorem fd_join {w w4 w5 w6 : World} {rb db n c n2 c2 told n' c' m' d' : Nat} {cl bad : Bool} {A A2 A' M' : Option Addr} {xs zs : List Nat} (h : Fd w w4 rb db cl A n c A2 n2 c2 xs told) (hbad : bad = (Fr.frV (xs ++ zs)).2.2)
    (p1 : RdM w5 w.heap.size rb A' n' c' (if cl || bad then [] else (Fr.frV (xs ++ zs)).2.1) (cl || bad)) (p2 : db ∉ bkV A' ∧ rb ∉ bkV A2 ∧ ∀ y ∈ bkV A', y ∉ bkV A2) (p3 : Off (rb :: bkV A) w4 w5)
    (q1 : DdM w6 w.heap.size db M' m' d' (if cl then xs else xs ++ zs) (if cl then told else (Fr.frV (xs ++ zs)).1.length) (cl || bad)) (q2 : Off (db :: bkV A2) w5 w6) (q3 : ∀ y ∈ bkV M', y ∈ bkV A2 ∨ w5.heap.size ≤ y) :
    Fd w w6 rb db (cl || bad) A' n' c' M' m' d' (if cl then xs else xs ++ zs) (if cl then told else (Fr.frV (xs ++ zs)).1.length) := by
  have hbs := h.b.size
  have hs5 := p3.size
  refine ⟨?_, q1, ?_, ⟨h.dj.1, ?_, p2.1, ?_⟩, ?_, h.lt⟩
  · have h1 := p1.off q2 (fun hs => by rcases List.mem_cons.1 hs with e | e; exact h.dj.1 e; exact p2.2.1 e) (fun y hy hs => by
      rcases List.mem_cons.1 hs with e | e
      · exact p2.1 (e ▸ hy)
      · exact p2.2.2 y hy e)
    cases cl with
    | true => exact h1
    | false => exact h1
  · intro hc
    cases cl with
    | true => simp at hc
    | false => simp at hc; subst hc; exact ⟨hbad.symm, rfl⟩
  · intro hs
    rcases q3 _ hs with e | e
    · exact p2.2.1 e
    · have := h.r.blk.lt; omega
  · intro y hy hs
    rcases q3 _ hs with e | e
    · exact p2.2.2 y hy e
    · have := (p1.own.lt y hy).2; omega
  · refine (h.b.trans (p3.below hbs fun y hy => ?_)).trans (q2.below (by omega) fun y hy => ?_)
    · exact (h.ltS y (by unfold blkF; rcases List.mem_cons.1 hy with rfl | hy <;> simp [*])).1
    · exact (h.ltS y (by unfold blkF; rcases List.mem_cons.1 hy with rfl | hy <;> simp [*])).1
/-- How many bytes wait. -/
def wtV (cl : Bool) (xs : List Nat) : Int := if cl then 0 else ((Fr.frV xs).2.1.length : Int)
theorem fd_wait (wr : World) (B rb : Nat) (cl : Bool) (A : Option Addr) (n c : Nat) (xs : List Nat) (h : RdM wr B rb A n c (if cl then [] else (Fr.frV xs).2.1) cl) : Calls Try.prog 37 #[.pointer (some ⟨rb, 0, none⟩)] wr fun e w' => e = .returned (.int .i64 (wtV cl xs)) ∧ wr = w' := by
  have hl := h.len
  refine (fwait_any wr rb A n c _ h.blk).mono ?_
  rintro e w' ⟨rfl, rfl⟩
  refine ⟨ret_int ?_, rfl⟩
  unfold wtV
  cases cl with
  | true => simp at hl; simp [← hl]
  | false => simp at hl; simp [← hl]
theorem fd_dwait (wr : World) (B db : Nat) (cl : Bool) (A : Option Addr) (n c : Nat) (xs : List Nat) (told : Nat) (h : DdM wr B db A n c xs told cl) (hn : n ≤ 29000000000000) : Calls Try.prog 38 #[.pointer (some ⟨db, 0, none⟩)] wr (ValEnd wr (.int .i64 (wtV cl xs))) := by
  cases cl with
  | true =>
    refine (dwait_closed wr db _ _ h.blk).mono ?_
    rintro e w' ⟨rfl, rfl⟩
    exact ⟨rfl, Below.refl _ _⟩
  | false =>
    refine (dwait_open wr B db A n c xs told h hn).mono ?_
    rintro e w' ⟨rfl, hb⟩
    exact ⟨rfl, hb⟩
def FdN (wr : World) (B rb : Nat) (cl : Bool) (A : Option Addr) (xs : List Nat) (e : Ending) (w' : World) : Prop :=
  ∃ A' n' c', e = .returned (.tuple #[.int .i64 (wtV cl xs), .int .i64 (enE cl)]) ∧ RdM w' B rb A' n' c' [] true ∧ Off [rb] wr w' ∧ ∀ y ∈ bkV A', y ∈ bkV A
theorem fd_end (wr : World) (B rb : Nat) (cl : Bool) (A : Option Addr) (n c : Nat) (xs : List Nat) (h : RdM wr B rb A n c (if cl then [] else (Fr.frV xs).2.1) cl) : Calls Try.prog 32 #[.pointer (some ⟨rb, 0, none⟩)] wr (FdN wr B rb cl A xs) := by
  have hl := h.len
  cases cl with
  | true =>
    refine (fend_closed wr rb _ h.blk).mono ?_
    rintro e w' ⟨rfl, rfl⟩
    exact ⟨A, n, c, rfl, h, Off.refl _ _, fun y hy => hy⟩
  | false =>
    refine (fend_open wr rb A n c h.blk).mono ?_
    rintro e w' ⟨rfl, rfl⟩
    simp at hl
    refine ⟨none, 0, 0, ?_, ⟨h.blk.put2 _ _, OwnV.nil _ _, by simp, by simp [bkV]⟩, ((Off.refl _ _).setCell (p := ⟨rb, 0, none⟩) (by simp) _).setCell (p := ⟨rb, 1, none⟩) (by simp) _, by simp [bkV]⟩
    rw [← hl]; rfl
def FdM (wr : World) (B db : Nat) (cl : Bool) (A : Option Addr) (n c : Nat) (xs : List Nat) (told : Nat) (e : Ending) (w' : World) : Prop :=
  e = .returned (.tuple #[.int .i64 (wtV cl xs), .int .i64 (enE cl)]) ∧ DdM w' B db A n c xs told true ∧ Off [db] wr w'
theorem fd_dend (wr : World) (B db : Nat) (cl : Bool) (A : Option Addr) (n c : Nat) (xs : List Nat) (told : Nat) (h : DdM wr B db A n c xs told cl) (hn : n ≤ 29000000000000) : Calls Try.prog 33 #[.pointer (some ⟨db, 0, none⟩)] wr (FdM wr B db cl A n c xs told) := by
  cases cl with
  | true =>
    refine (dend_closed wr db _ _ h.blk).mono ?_
    rintro e w' ⟨rfl, rfl⟩
    exact ⟨rfl, h, Off.refl _ _⟩
  | false =>
    refine (dend_open wr B db A n c xs told h hn).mono ?_
    rintro e w' ⟨rfl, h1, h2⟩
    exact ⟨rfl, h1, h2⟩

/-- A list of lists of numbers of a byte's kind, whatever they are: each in a block of its own. -/
structure RowZ where
  b : Nat
  o : Nat
  n : Nat
  c : Nat
abbrev RowZ.val (r : RowZ) : Value := .slice (some ⟨r.b, r.o, none⟩) r.n r.c
abbrev VZ (z : Int) : Value := .int .u8 z
structure PayZ (w : World) (B : Nat) (A : Option Addr) (k c : Nat) (rs : List RowZ) : Prop where
  own : OwnV w B A k c (rs.map RowZ.val)
  row : ∀ (i : Nat) (r : RowZ), rs[i]? = some r → ∃ zs : List Int, OwnV w B (some ⟨r.b, r.o, none⟩) r.n r.c (zs.map VZ)
  inj : ∀ (i i' : Nat) (r r' : RowZ), rs[i]? = some r → rs[i']? = some r' → r.b = r'.b → i = i'
  ne : ∀ (i : Nat) (r : RowZ), rs[i]? = some r → r.b ∉ bkV A
theorem PayL.z {w : World} {B k c : Nat} {A : Option Addr} {rs : List Row} (h : PayL w B A k c rs) : PayZ w B A k c (rs.map fun r => ⟨r.b, 0, r.n, r.c⟩) := by
  have hnd := h.nd
  unfold blkP at hnd
  rw [List.nodup_append] at hnd
  obtain ⟨_, n2, n3⟩ := hnd
  have get : ∀ (i : Nat) (r : RowZ), (rs.map fun r : Row => (⟨r.b, 0, r.n, r.c⟩ : RowZ))[i]? = some r → ∃ q, rs[i]? = some q ∧ r = ⟨q.b, 0, q.n, q.c⟩ := fun i r hr => by
    rw [List.getElem?_map] at hr
    cases hq : rs[i]? with
    | none => rw [hq] at hr; cases hr
    | some q => rw [hq] at hr; exact ⟨q, rfl, by simpa using hr.symm⟩
  refine ⟨by simpa [Function.comp_def] using h.own, fun i r hr => ?_, fun i i' r r' hr hr' e => ?_, fun i r hr hm => ?_⟩
  · obtain ⟨q, hq, rfl⟩ := get i r hr
    refine ⟨q.p.map (fun d : Nat => (d : Int)), ?_⟩
    have := (h.row q (List.mem_of_getElem? hq)).own
    simpa [Function.comp_def] using this
  · obtain ⟨q, hq, rfl⟩ := get i r hr
    obtain ⟨q', hq', rfl⟩ := get i' r' hr'
    have h1 : (rs.map (·.b))[i]? = some q.b := by rw [List.getElem?_map, hq]; rfl
    have h2 : (rs.map (·.b))[i']? = some q.b := by rw [List.getElem?_map, hq']; simpa using e.symm
    exact (List.getElem?_inj (List.getElem?_eq_some_iff.1 h1).1 n2).1 (h1.trans h2.symm)
  · obtain ⟨q, hq, rfl⟩ := get i r hr
    exact n3 _ hm _ (List.mem_map.2 ⟨q, List.mem_of_getElem? hq, rfl⟩) rfl
section
variable {w w' : World} {B k c : Nat} {A : Option Addr} {rs : List RowZ} {S : List Nat}
theorem PayZ.len (h : PayZ w B A k c rs) : rs.length = k := by have := h.own.len; simpa using this
theorem PayZ.at_ (h : PayZ w B A k c rs) {j : Nat} (hj : j < k) : ∃ r b off, rs[j]? = some r ∧ A = some ⟨b, off, none⟩ ∧ B ≤ b ∧ b < w.heap.size ∧ w.cell? ⟨b, off + j, none⟩ = some r.val ∧ w.frozen? ⟨b, off + j, none⟩ = false := by
  have hl := h.len
  obtain ⟨b, off, e, h1, h2, h3, h4⟩ := h.own.cell (by omega)
  have hr : rs[j]? = some rs[j] := List.getElem?_eq_getElem (by omega)
  exact ⟨_, b, off, hr, e, h1, h2, h3 j _ (by rw [List.getElem?_map, hr]; rfl), h4 j hj⟩
/-- A row is changed, and laid anew. -/
theorem PayZ.upd {j b off : Nat} {r r' : RowZ} (h : PayZ w B (some ⟨b, off, none⟩) k c rs) (hj : j < k) (hr : rs[j]? = some r) (hf : Off [r.b] w w') (ho : ∃ zs : List Int, OwnV w' B (some ⟨r'.b, r'.o, none⟩) r'.n r'.c (zs.map VZ)) (hb : r'.b = r.b ∨ w.heap.size ≤ r'.b) :
    PayZ (w'.setCell ⟨b, off + j, none⟩ r'.val) B (some ⟨b, off, none⟩) k c (rs.set j r') := by
  have hl := h.len
  have hA : ∀ (i : Nat) (q : RowZ), rs[i]? = some q → q.b ≠ b := fun i q hq e => h.ne i q hq (by simp [bkV, e])
  have hbl : b < w.heap.size := (h.own.lt b (by simp [bkV])).2
  have hr'b : r'.b ≠ b := by
    rcases hb with e | e
    · rw [e]; exact hA j r hr
    · omega
  have get : ∀ (i : Nat) (q : RowZ), (rs.set j r')[i]? = some q → (i = j ∧ q = r') ∨ (i ≠ j ∧ rs[i]? = some q) := fun i q hq => by
    rw [List.getElem?_set] at hq
    by_cases e : j = i
    · subst e; rw [if_pos rfl] at hq
      split at hq
      · exact .inl ⟨rfl, by simpa using hq.symm⟩
      · cases hq
    · rw [if_neg e] at hq; exact .inr ⟨fun h => e h.symm, hq⟩
  have hset : Off [b] w' (w'.setCell ⟨b, off + j, none⟩ r'.val) := (Off.refl _ _).setCell (p := ⟨b, off + j, none⟩) (by simp) _
  refine ⟨?_, fun i q hq => ?_, fun i i' q q' hq hq' e => ?_, fun i q hq => ?_⟩
  · have := (h.own.off hf (by intro y hy hs; simp [bkV] at hy hs; exact hA j r hr (by omega))).set j r'.val hj
    rwa [List.map_set]
  · rcases get i q hq with ⟨rfl, rfl⟩ | ⟨hne, hq0⟩
    · obtain ⟨zs, hz⟩ := ho
      exact ⟨zs, hz.off hset (by intro y hy hs; simp [bkV] at hy hs; omega)⟩
    · obtain ⟨zs, hz⟩ := h.row i q hq0
      have hqr : q.b ≠ r.b := fun e => hne (h.inj i j q r hq0 hr e)
      have hqb := hA i q hq0
      exact ⟨zs, (hz.off hf (by intro y hy hs; simp [bkV] at hy hs; omega)).off hset (by intro y hy hs; simp [bkV] at hy hs; omega)⟩
  · rcases get i q hq with ⟨rfl, rfl⟩ | ⟨hne, hq0⟩ <;> rcases get i' q' hq' with ⟨rfl, rfl⟩ | ⟨hne', hq0'⟩
    · rfl
    · rcases hb with e2 | e2
      · exact absurd (h.inj _ _ _ _ hr hq0' (by omega)).symm hne'
      · obtain ⟨zs, hz⟩ := h.row i' q' hq0'
        have := (hz.lt q'.b (by simp [bkV])).2; omega
    · rcases hb with e2 | e2
      · exact absurd (h.inj _ _ _ _ hq0 hr (by omega)) hne
      · obtain ⟨zs, hz⟩ := h.row i q hq0
        have := (hz.lt q.b (by simp [bkV])).2; omega
    · exact h.inj i i' q q' hq0 hq0' e
  · rcases get i q hq with ⟨rfl, rfl⟩ | ⟨hne, hq0⟩
    · simp [bkV]; exact hr'b
    · exact h.ne i q hq0
end

/-- A list of bools that is only read. -/
structure ArgO (w : World) (B : Nat) (A : Option Addr) (n c : Nat) (bs : Nat → Bool) : Prop where
  at_ : 0 < n → ∃ b off, A = some ⟨b, off, none⟩ ∧ b < B ∧ ∀ k, k < n → w.cell? ⟨b, off + k, none⟩ = some (.bool (bs k))
theorem ArgO.below {w w' : World} {B n c : Nat} {A : Option Addr} {bs : Nat → Bool} (h : ArgO w B A n c bs) (hb : Below B w w') : ArgO w' B A n c bs :=
  ⟨fun hn => by
    obtain ⟨b, off, e, hB, hc⟩ := h.at_ hn
    exact ⟨b, off, e, hB, fun k hk => (hb.cell (p := ⟨b, off + k, none⟩) hB).trans (hc k hk)⟩⟩

def totL (l : List (List Nat)) : Nat := (l.map List.length).sum
theorem totL_succ {l : List (List Nat)} {i : Nat} (h : i < l.length) : totL (l.take (i + 1)) = totL (l.take i) + (l.getD i []).length := by
  have e : l.take (i + 1) = l.take i ++ [l.getD i []] := by rw [List.take_succ_eq_append_getElem h, List.getD_eq_getElem?_getD, List.getElem?_eq_getElem h]; rfl
  unfold totL
  rw [e, List.map_append, List.sum_append]; simp
theorem totL_le (l : List (List Nat)) (i : Nat) : totL (l.take i) ≤ totL l := by
  have e : totL l = totL (l.take i) + totL (l.drop i) := by
    unfold totL
    rw [← List.sum_append, ← List.map_append, List.take_append_drop]
  omega
/-- What holds between the rounds of the law. -/
def FfI (w : World) (rb db : Nat) (ps : List (List Nat)) (i : Nat) (wr : World) : Prop :=
  ∃ (cl : Bool) (A : Option Addr) (n c : Nat) (A2 : Option Addr) (n2 c2 : Nat) (xs : List Nat) (told : Nat), Fd w wr rb db cl A n c A2 n2 c2 xs told ∧ xs.length ≤ totL (ps.take i)
end Go.Proofs.Ytlkkldegbopnpaa
