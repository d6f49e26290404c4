/- CountHolds: the state: the law's own record of what was played, in memory and in numbers. -/
import Derived.Test.YtddadlomkodgcaaCatM
namespace Go.Proofs.Ytddadlomkodgcaa
open Go.RowKit
set_option maxRecDepth 100000
set_option linter.unusedVariables false

theorem cell_set {w : World} {b i : Nat} {v : Value} (hx : w.cell? ⟨b, i, none⟩ = some v) (j : Nat) (u : Value) :
    (w.setCell ⟨b, i, none⟩ u).cell? ⟨b, j, none⟩ = if j = i then some u else w.cell? ⟨b, j, none⟩ := by
  by_cases e : j = i
  · subst e
    rw [if_pos rfl]
    exact World.cell?_setCell_same _ _ _ hx
  · rw [if_neg e]
    exact World.cell?_setCell_other _ _ _ _ (by intro h; cases h; exact e rfl)

def updN (f : Nat → Nat) (q x : Nat) : Nat → Nat := fun t => if t = q then x else f t
def updI (f : Nat → Int) (q : Nat) (x : Int) : Nat → Int := fun t => if t = q then x else f t

structure PlB (w : World) (pb : Nat) (pc : Value) (top ups dn : Int) (ops : Nat → Int) (si sw : Nat → Nat) : Prop where
  lt : pb < w.heap.size
  c0 : w.cell? ⟨pb, 0, none⟩ = some pc
  c1 : w.cell? ⟨pb, 1, none⟩ = some (.int .i64 top)
  c2 : w.cell? ⟨pb, 2, none⟩ = some (.int .i64 ups)
  c3 : w.cell? ⟨pb, 3, none⟩ = some (.int .i64 dn)
  op : ∀ q, q < 64 → w.cell? ⟨pb, 4 + q, none⟩ = some (.int .u8 (ops q))
  si : ∀ q, q < 64 → w.cell? ⟨pb, 68 + q, none⟩ = some (.int .i64 (si q : Nat))
  sw : ∀ q, q < 64 → w.cell? ⟨pb, 132 + q, none⟩ = some (.int .i64 (sw q : Nat))
  fr : ∀ i, i < 196 → w.frozen? ⟨pb, i, none⟩ = false
section
variable {w w' : World} {pb : Nat} {pc : Value} {top ups dn : Int} {ops : Nat → Int} {si sw : Nat → Nat} {S : List Nat}
theorem PlB.off (h : PlB w pb pc top ups dn ops si sw) (hb : Off S w w') (hs : pb ∉ S) : PlB w' pb pc top ups dn ops si sw :=
  ⟨Nat.lt_of_lt_of_le h.lt hb.size, (hb.cell (p := ⟨pb, 0, none⟩) h.lt hs).trans h.c0, (hb.cell (p := ⟨pb, 1, none⟩) h.lt hs).trans h.c1, (hb.cell (p := ⟨pb, 2, none⟩) h.lt hs).trans h.c2, (hb.cell (p := ⟨pb, 3, none⟩) h.lt hs).trans h.c3,
    fun q hq => (hb.cell (p := ⟨pb, 4 + q, none⟩) h.lt hs).trans (h.op q hq), fun q hq => (hb.cell (p := ⟨pb, 68 + q, none⟩) h.lt hs).trans (h.si q hq), fun q hq => (hb.cell (p := ⟨pb, 132 + q, none⟩) h.lt hs).trans (h.sw q hq),
    fun i hi => (hb.frozen (p := ⟨pb, i, none⟩) h.lt hs).trans (h.fr i hi)⟩
theorem PlB.set0 (h : PlB w pb pc top ups dn ops si sw) (x : Value) : PlB (w.setCell ⟨pb, 0, none⟩ x) pb x top ups dn ops si sw := by
  refine ⟨by simpa using h.lt, ?_, ?_, ?_, ?_, fun q hq => ?_, fun q hq => ?_, fun q hq => ?_, fun i hi => by simpa using h.fr i hi⟩
  · rw [cell_set h.c0, if_pos rfl]
  · rw [cell_set h.c0, if_neg (by omega)]; exact h.c1
  · rw [cell_set h.c0, if_neg (by omega)]; exact h.c2
  · rw [cell_set h.c0, if_neg (by omega)]; exact h.c3
  · rw [cell_set h.c0, if_neg (by omega)]; exact h.op q hq
  · rw [cell_set h.c0, if_neg (by omega)]; exact h.si q hq
  · rw [cell_set h.c0, if_neg (by omega)]; exact h.sw q hq
theorem PlB.setUps (h : PlB w pb pc top ups dn ops si sw) (x : Int) : PlB (w.setCell ⟨pb, 2, none⟩ (.int .i64 x)) pb pc top x dn ops si sw := by
  refine ⟨by simpa using h.lt, ?_, ?_, ?_, ?_, fun q hq => ?_, fun q hq => ?_, fun q hq => ?_, fun i hi => by simpa using h.fr i hi⟩
  · rw [cell_set h.c2, if_neg (by omega)]; exact h.c0
  · rw [cell_set h.c2, if_neg (by omega)]; exact h.c1
  · rw [cell_set h.c2, if_pos rfl]
  · rw [cell_set h.c2, if_neg (by omega)]; exact h.c3
  · rw [cell_set h.c2, if_neg (by omega)]; exact h.op q hq
  · rw [cell_set h.c2, if_neg (by omega)]; exact h.si q hq
  · rw [cell_set h.c2, if_neg (by omega)]; exact h.sw q hq
theorem PlB.setDn (h : PlB w pb pc top ups dn ops si sw) (x : Int) : PlB (w.setCell ⟨pb, 3, none⟩ (.int .i64 x)) pb pc top ups x ops si sw := by
  refine ⟨by simpa using h.lt, ?_, ?_, ?_, ?_, fun q hq => ?_, fun q hq => ?_, fun q hq => ?_, fun i hi => by simpa using h.fr i hi⟩
  · rw [cell_set h.c3, if_neg (by omega)]; exact h.c0
  · rw [cell_set h.c3, if_neg (by omega)]; exact h.c1
  · rw [cell_set h.c3, if_neg (by omega)]; exact h.c2
  · rw [cell_set h.c3, if_pos rfl]
  · rw [cell_set h.c3, if_neg (by omega)]; exact h.op q hq
  · rw [cell_set h.c3, if_neg (by omega)]; exact h.si q hq
  · rw [cell_set h.c3, if_neg (by omega)]; exact h.sw q hq
theorem PlB.setOp (h : PlB w pb pc top ups dn ops si sw) {j : Nat} (hj : j < 64) (x : Int) : PlB (w.setCell ⟨pb, 4 + j, none⟩ (.int .u8 x)) pb pc top ups dn (updI ops j x) si sw := by
  refine ⟨by simpa using h.lt, ?_, ?_, ?_, ?_, fun q hq => ?_, fun q hq => ?_, fun q hq => ?_, fun i hi => by simpa using h.fr i hi⟩
  · rw [cell_set (h.op j hj), if_neg (by omega)]; exact h.c0
  · rw [cell_set (h.op j hj), if_neg (by omega)]; exact h.c1
  · rw [cell_set (h.op j hj), if_neg (by omega)]; exact h.c2
  · rw [cell_set (h.op j hj), if_neg (by omega)]; exact h.c3
  · rw [cell_set (h.op j hj)]
    unfold updI
    by_cases e : q = j
    · rw [if_pos (by omega), if_pos e]
    · rw [if_neg (by omega), if_neg e]; exact h.op q hq
  · rw [cell_set (h.op j hj), if_neg (by omega)]; exact h.si q hq
  · rw [cell_set (h.op j hj), if_neg (by omega)]; exact h.sw q hq
theorem PlB.setSi (h : PlB w pb pc top ups dn ops si sw) {j : Nat} (hj : j < 64) (x : Nat) : PlB (w.setCell ⟨pb, 68 + j, none⟩ (.int .i64 (x : Int))) pb pc top ups dn ops (updN si j x) sw := by
  refine ⟨by simpa using h.lt, ?_, ?_, ?_, ?_, fun q hq => ?_, fun q hq => ?_, fun q hq => ?_, fun i hi => by simpa using h.fr i hi⟩
  · rw [cell_set (h.si j hj), if_neg (by omega)]; exact h.c0
  · rw [cell_set (h.si j hj), if_neg (by omega)]; exact h.c1
  · rw [cell_set (h.si j hj), if_neg (by omega)]; exact h.c2
  · rw [cell_set (h.si j hj), if_neg (by omega)]; exact h.c3
  · rw [cell_set (h.si j hj), if_neg (by omega)]; exact h.op q hq
  · rw [cell_set (h.si j hj)]
    unfold updN
    by_cases e : q = j
    · rw [if_pos (by omega), if_pos e]
    · rw [if_neg (by omega), if_neg e]; exact h.si q hq
  · rw [cell_set (h.si j hj), if_neg (by omega)]; exact h.sw q hq
theorem PlB.setSw (h : PlB w pb pc top ups dn ops si sw) {j : Nat} (hj : j < 64) (x : Nat) : PlB (w.setCell ⟨pb, 132 + j, none⟩ (.int .i64 (x : Int))) pb pc top ups dn ops si (updN sw j x) := by
  refine ⟨by simpa using h.lt, ?_, ?_, ?_, ?_, fun q hq => ?_, fun q hq => ?_, fun q hq => ?_, fun i hi => by simpa using h.fr i hi⟩
  · rw [cell_set (h.sw j hj), if_neg (by omega)]; exact h.c0
  · rw [cell_set (h.sw j hj), if_neg (by omega)]; exact h.c1
  · rw [cell_set (h.sw j hj), if_neg (by omega)]; exact h.c2
  · rw [cell_set (h.sw j hj), if_neg (by omega)]; exact h.c3
  · rw [cell_set (h.sw j hj), if_neg (by omega)]; exact h.op q hq
  · rw [cell_set (h.sw j hj), if_neg (by omega)]; exact h.si q hq
  · rw [cell_set (h.sw j hj)]
    unfold updN
    by_cases e : q = j
    · rw [if_pos (by omega), if_pos e]
    · rw [if_neg (by omega), if_neg e]; exact h.sw q hq
end

/-- Memory: the counter and the record. -/
structure HoM (w : World) (top c b bw pb : Nat) (wr : World) (v k ups dn : Nat) (calls : List CallV) (ops : Nat → Int) (si sw : Nat → Nat) : Prop where
  cnt : CntS wr c b bw top v k calls
  pl : PlB wr pb (.pointer (some ⟨c, 0, none⟩)) top ups dn ops si sw
  bel : Below w.heap.size w wr
  hc : w.heap.size ≤ c
  hb : w.heap.size ≤ b
  hbw : w.heap.size ≤ bw
  hpb : w.heap.size ≤ pb
  nc : pb ∉ [c, b, bw]
section
variable {w wr w' : World} {top c b bw pb v k ups dn : Nat} {calls : List CallV} {ops : Nat → Int} {si sw : Nat → Nat}
theorem HoM.alloc (h : HoM w top c b bw pb wr v k ups dn calls ops si sw) (o : Obj) : HoM w top c b bw pb (wr.alloc o) v k ups dn calls ops si sw :=
  ⟨h.cnt.alloc o, h.pl.off (S := []) ((Off.refl [] wr).alloc o) (by simp), h.bel.alloc h.bel.size o, h.hc, h.hb, h.hbw, h.hpb, h.nc⟩
theorem HoM.below (h : HoM w top c b bw pb wr v k ups dn calls ops si sw) (hb : Below wr.heap.size wr w') : HoM w top c b bw pb w' v k ups dn calls ops si sw :=
  ⟨h.cnt.below hb, h.pl.off (S := []) (Off.of_below hb) (by simp), h.bel.trans (hb.mono h.bel.size), h.hc, h.hb, h.hbw, h.hpb, h.nc⟩
theorem HoM.drewN (h : HoM w top c b bw pb wr v k ups dn calls ops si sw) (t : Nat) : HoM w top c b bw pb (wr.drewN t) v k ups dn calls ops si sw := by
  have hof : Off [] wr (wr.drewN t) := ⟨rfl, rfl, rfl, Nat.le_refl _, fun _ _ _ => rfl⟩
  exact ⟨h.cnt.off hof (by simp) (by simp) (by simp), h.pl.off hof (by simp), ⟨h.bel.os, h.bel.tape, h.bel.output, h.bel.size, h.bel.block⟩, h.hc, h.hb, h.hbw, h.hpb, h.nc⟩
theorem HoM.drew (h : HoM w top c b bw pb wr v k ups dn calls ops si sw) : HoM w top c b bw pb wr.drew v k ups dn calls ops si sw := h.drewN 1
theorem HoM.lts (h : HoM w top c b bw pb wr v k ups dn calls ops si sw) : c < wr.heap.size ∧ b < wr.heap.size ∧ bw < wr.heap.size ∧ pb < wr.heap.size := by
  obtain ⟨rg, hm⟩ := h.cnt.m
  exact ⟨h.cnt.blk.lt, hm.blk.lt, hm.wd.lt, h.pl.lt⟩
theorem HoM.act (h : HoM w top c b bw pb wr v k ups dn calls ops si sw) {v' k' : Nat} {calls' : List CallV} (hn : CntS w' c b bw top v' k' calls') (hf : Off [c, b, bw] wr w') : HoM w top c b bw pb w' v' k' ups dn calls' ops si sw :=
  ⟨hn, h.pl.off hf h.nc, hf.up h.bel h.hc h.hb h.hbw, h.hc, h.hb, h.hbw, h.hpb, h.nc⟩
theorem HoM.put (h : HoM w top c b bw pb wr v k ups dn calls ops si sw) {j : Nat} {x : Value} {ups' dn' : Nat} {ops' : Nat → Int} {si' sw' : Nat → Nat} (hp : PlB (wr.setCell ⟨pb, j, none⟩ x) pb (.pointer (some ⟨c, 0, none⟩)) top ups' dn' ops' si' sw') :
    HoM w top c b bw pb (wr.setCell ⟨pb, j, none⟩ x) v k ups' dn' calls ops' si' sw' := by
  have hnc := h.nc
  simp only [List.mem_cons, List.not_mem_nil, or_false, not_or] at hnc
  exact ⟨h.cnt.off (S := [pb]) ((Off.refl _ wr).setCell (by simp) _) (by simpa using Ne.symm hnc.1) (by simpa using Ne.symm hnc.2.1) (by simpa using Ne.symm hnc.2.2), hp, h.bel.setCell (p := ⟨pb, j, none⟩) h.hpb _, h.hc, h.hb, h.hbw, h.hpb, h.nc⟩
end

/-- Numbers: what holds between the steps. -/
structure HoI (top i v k ups dn : Nat) (calls : List CallV) (ops : Nat → Int) (si sw : Nat → Nat) : Prop where
  len : calls.length = 64
  ki : k ≤ i
  vt : v ≤ top
  vud : v + dn = ups
  ui : ups ≤ i
  okc : ∀ j, j < 64 → OkCall top (calls.getD j noCall)
  opc : ∀ j, j < 64 → (calls.getD j noCall).op ≠ 0 → ops j = ((calls.getD j noCall).op : Int)
  par : ∀ j, j < 64 → (calls.getD j noCall).op ≠ 0 → si j % 2 = (if (calls.getD j noCall).ld then 1 else 0)
  old : ∀ j, j < 64 → (calls.getD j noCall).ld = true → v = (calls.getD j noCall).old ∨ 1 ≤ sw j
  sib : ∀ j, si j ≤ i
  swb : ∀ j, sw j ≤ i
section
variable {top i v k ups dn : Nat} {calls : List CallV} {ops : Nat → Int} {si sw : Nat → Nat}
theorem HoI.mono (h : HoI top i v k ups dn calls ops si sw) {i' : Nat} (hi : i ≤ i') : HoI top i' v k ups dn calls ops si sw :=
  ⟨h.len, Nat.le_trans h.ki hi, h.vt, h.vud, Nat.le_trans h.ui hi, h.okc, h.opc, h.par, h.old, fun j => Nat.le_trans (h.sib j) hi, fun j => Nat.le_trans (h.swb j) hi⟩
/-- One call is another now. -/
theorem HoI.turn (h : HoI top i v k ups dn calls ops si sw) {q : Nat} (hq : q < 64) {x : CallV} {k' : Nat} (hk : k' ≤ k + 1) {ops' : Nat → Int} {si' sw' : Nat → Nat} (hx : OkCall top x)
    (h1 : x.op ≠ 0 → ops' q = (x.op : Int)) (h2 : x.op ≠ 0 → si' q % 2 = (if x.ld then 1 else 0)) (h3 : x.ld = true → v = x.old ∨ 1 ≤ sw' q)
    (e1 : ∀ j, j ≠ q → ops' j = ops j) (e2 : ∀ j, j ≠ q → si' j = si j) (e3 : ∀ j, j ≠ q → sw' j = sw j) (b2 : si' q ≤ i + 1) (b3 : sw' q ≤ i + 1) :
    HoI top (i + 1) v k' ups dn (calls.set q x) ops' si' sw' := by
  have g : ∀ j, (calls.set q x).getD j noCall = if q = j then x else calls.getD j noCall := fun j => getD_set _ _ _ _ _ (by rw [h.len]; exact hq)
  refine ⟨by simp [h.len], by have := h.ki; omega, h.vt, h.vud, by have := h.ui; omega, fun j hj => ?_, fun j hj => ?_, fun j hj => ?_, fun j hj => ?_, fun j => ?_, fun j => ?_⟩
  · rw [g]; split
    · exact hx
    · exact h.okc j hj
  · rw [g]; split
    · rename_i e; subst e; exact h1
    · rename_i e; rw [e1 j (fun c => e c.symm)]; exact h.opc j hj
  · rw [g]; split
    · rename_i e; subst e; exact h2
    · rename_i e; rw [e2 j (fun c => e c.symm)]; exact h.par j hj
  · rw [g]; split
    · rename_i e; subst e; exact h3
    · rename_i e; rw [e3 j (fun c => e c.symm)]; exact h.old j hj
  · by_cases e : j = q
    · subst e; exact b2
    · rw [e2 j e]; exact Nat.le_succ_of_le (h.sib j)
  · by_cases e : j = q
    · subst e; exact b3
    · rw [e3 j e]; exact Nat.le_succ_of_le (h.swb j)
/-- The counter is another now: each call has missed one Swap more. -/
theorem HoI.moved (h : HoI top i v k ups dn calls ops si sw) {v' ups' dn' : Nat} {sw' : Nat → Nat} (hv : v' ≤ top) (hu : v' + dn' = ups') (hui : ups' ≤ i + 1) (e : ∀ t, t < 64 → sw' t = sw t + 1) (b : ∀ t, sw' t ≤ i + 1) :
    HoI top (i + 1) v' k ups' dn' calls ops si sw' :=
  ⟨h.len, Nat.le_succ_of_le h.ki, hv, hu, hui, h.okc, h.opc, h.par, fun j hj _ => .inr (by rw [e j hj]; omega), fun j => Nat.le_succ_of_le (h.sib j), b⟩
end
def rankV (v : Nat) (x : CallV) : Nat := if x.op = 0 then 0 else if x.ld then (if v = x.old then 1 else 3) else 2
end Go.Proofs.Ytddadlomkodgcaa
