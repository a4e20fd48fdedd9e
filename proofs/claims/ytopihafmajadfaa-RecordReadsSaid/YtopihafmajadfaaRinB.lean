/- The document's reading (careenref04): what stands in memory while a record is read. -/
import Derived.Test.YtopihafmajadfaaRinA
import Derived.Test.YtopihafmajadfaaRecMay
import Derived.Test.YtopihafmajadfaaRecD
import Derived.Test.YtopihafmajadfaaRecL
namespace Go.Proofs.Ytopihafmajadfaa
open Go.RowKit

/-- While a record is read: what is left, the record so far, the answer's own place. -/
structure RS (w0 w : World) (gx gr gR : Nat) (x : Rin) (r : Rc) (vt vp : Value) : Prop where
  inn : Blk w gx 84 (inV x)
  row : Blk w gr 26 (recCells r vt vp)
  res : Blk w gR 26 (recCells .nil (.slice none 0 0) (.slice none 0 0))
  ne : gr ≠ gR
  bx : w0.heap.size ≤ gx
  br : w0.heap.size ≤ gr
  below : Below w0.heap.size w0 w
  t : w.ownsRow w0.heap.size 87 3 vt r.txns.length (rows3 r.txns)
  p : w.ownsRow w0.heap.size 89 2 vp r.pages.length (rows2 r.pages)
  le : x.s.length ≤ maxLen
namespace RS
variable {w0 w w' : World} {gx gr gR : Nat} {x y : Rin} {r r' : Rc} {vt vp vt' vp' : Value}
theorem xr (h : RS w0 w gx gr gR x r vt vp) : gr ≠ gx := fun e => by
  have h1 := h.inn
  have h2 := h.row
  unfold Blk at h1 h2
  rw [e, h1] at h2
  cases h2
theorem xR (h : RS w0 w gx gr gR x r vt vp) : gR ≠ gx := fun e => by
  have h1 := h.inn
  have h2 := h.res
  unfold Blk at h1 h2
  rw [e, h1] at h2
  cases h2
theorem more (h : RS w0 w gx gr gR x r vt vp) (hb : Below w.heap.size w w') : RS w0 w' gx gr gR x r vt vp :=
  ⟨h.inn.keep hb h.inn.lt, h.row.keep hb h.row.lt, h.res.keep hb h.res.lt, h.ne, h.bx, h.br, h.below.trans (hb.mono h.below.size), own_below h.t hb, own_below h.p hb, h.le⟩
theorem drew (h : RS w0 w gx gr gR x r vt vp) : RS w0 w.drew gx gr gR x r vt vp := h.more ⟨rfl, rfl, rfl, Nat.le_refl _, fun _ _ => rfl⟩
theorem took (h : RS w0 w gx gr gR x r vt vp) {n : Nat} (hb : Blk w' gx 84 (inV (x.rest n))) (ho : Only (· = gx) w w') : RS w0 w' gx gr gR (x.rest n) r vt vp :=
  ⟨hb, ho.blk h.row h.xr, ho.blk h.res h.xR, h.ne, h.bx, h.br, ho.below h.below h.below.size fun b e => by subst e; exact h.bx,
    own_only h.t ho fun b hv e => own_blk h.t h.inn (by decide) (by rw [hv]; congr 1), own_only h.p ho fun b hv e => own_blk h.p h.inn (by decide) (by rw [hv]; congr 1), Nat.le_trans (x.rest_le n) h.le⟩
/-- A field is written. -/
theorem set (h : RS w0 w gx gr gR x r vt vp) (i : Nat) (v : Value) (hc : (recCells r vt vp).setIfInBounds i v = recCells r' vt vp) (ht : r'.txns = r.txns) (hp : r'.pages = r.pages) : RS w0 (w.setCell ⟨gr, i, none⟩ v) gx gr gR x r' vt vp :=
  ⟨(heap_setCell_other w ⟨gr, i, none⟩ gx v h.xr.symm).trans h.inn, hc ▸ h.row.set i v, (heap_setCell_other w ⟨gr, i, none⟩ gR v h.ne.symm).trans h.res, h.ne, h.bx, h.br, h.below.setCell (p := ⟨gr, i, none⟩) h.br v,
    by rw [ht]; exact own_keep h.t fun b hv => heap_setCell_other w _ b v fun e => own_blk h.t h.row (by decide) (by rw [hv, e]),
    by rw [hp]; exact own_keep h.p fun b hv => heap_setCell_other w _ b v fun e => own_blk h.p h.row (by decide) (by rw [hv, e]), h.le⟩
theorem cells (h : RS w0 w gx gr gR x r vt vp) : (∃ v, w.cell? ⟨gr, 1, none⟩ = some v) ∧ True := ⟨⟨_, h.row.cell 1⟩, trivial⟩
theorem isRec (h : RS w0 w gx gr gR x r vt vp) : IsRec w (recV r vt vp) r := ⟨vt, vp, rfl, .ofOwn h.t, .ofOwn h.p⟩
end RS
end Go.Proofs.Ytopihafmajadfaa
