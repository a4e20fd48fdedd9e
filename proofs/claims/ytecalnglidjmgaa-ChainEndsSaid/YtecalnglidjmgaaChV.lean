/- ChainEnds: the list that is written on, in memory; put. -/
import Derived.Test.YtecalnglidjmgaaChR
namespace Go.Proofs.Ytecalnglidjmgaa
open Go.RowKit

/-- The three variables of put: the list, the last place, the next place. -/
structure Ends (w0 : World) (gl g1 g2 B : Nat) (w : World) (v : Value) (q : List Qx) (last at_ : Int) : Prop where
  below : Below w0.heap.size w0 w
  lst : Blk w gl 22 #[v]
  own : w.ownsRow B 47 12 v q.length (qV q)
  la : Blk w g1 3 #[.int .i64 last]
  aa : Blk w g2 3 #[.int .i64 at_]
  rows : ∀ x ∈ q, x.vt = .slice none 0 0 ∧ x.vp = .slice none 0 0 ∧ x.r.txns = [] ∧ x.r.pages = [] ∧ x.r.before.size ≤ 300
  ge : w0.heap.size ≤ gl ∧ w0.heap.size ≤ g1 ∧ w0.heap.size ≤ g2
  lt : gl < B ∧ g1 < B ∧ g2 < B
  ne : gl ≠ g1 ∧ gl ≠ g2 ∧ g1 ≠ g2
  z : B ≤ w.heap.size
namespace Ends
variable {w0 w w' : World} {gl g1 g2 B : Nat} {v : Value} {q : List Qx} {last at_ : Int}
theorem more (h : Ends w0 gl g1 g2 B w v q last at_) (hb : Below w.heap.size w w') : Ends w0 gl g1 g2 B w' v q last at_ :=
  ⟨h.below.trans (hb.mono h.below.size), h.lst.keep hb h.lst.lt, own_below h.own hb, h.la.keep hb h.la.lt, h.aa.keep hb h.aa.lt, h.rows, h.ge, h.lt, h.ne, Nat.le_trans h.z hb.size⟩
theorem isEnts (h : Ends w0 gl g1 g2 B w v q last at_) : IsEnts w v (q.map Qx.ent) := qEnts h.own fun x hx => by
  obtain ⟨h1, h2, h3, h4, _⟩ := h.rows x hx
  rw [h1, h2]
  exact Lists.nil w x.r h3 h4
theorem small (h : Ends w0 gl g1 g2 B w v q last at_) : ∀ x ∈ q.map Qx.ent, x.2.before.size ≤ 300 := fun x hx => by
  obtain ⟨y, hy, rfl⟩ := List.mem_map.1 hx
  exact (h.rows y hy).2.2.2.2
end Ends
/-- A value that lies apart from the list and its variables. -/
def Sep (gl g1 g2 : Nat) (w : World) (u v : Value) : Prop := ∀ b, u.ownBlock = some b → b < w.heap.size ∧ b ≠ gl ∧ b ≠ g1 ∧ b ≠ g2 ∧ v.ownBlock ≠ some b

set_option maxRecDepth 100000 in
set_option maxHeartbeats 16000000 in
theorem putEnds {w0 w : World} {gl g1 g2 B : Nat} {v : Value} {q : List Qx} {last at_ : Int} (h : Ends w0 gl g1 g2 B w v q last at_) (r : Rc) (hr : r.txns = [] ∧ r.pages = []) (hrb : r.before.size ≤ 300) (hq : q.length ≤ 900) (ha : 0 ≤ at_ ∧ at_ ≤ 1000000) :
    Calls Try.prog 18 #[recV r (.slice none 0 0) (.slice none 0 0), .pointer (some ⟨g1, 0, none⟩), .pointer (some ⟨gl, 0, none⟩), .pointer (some ⟨g2, 0, none⟩)] w fun e w' =>
      (∃ x, e = .returned x) ∧ ∃ v', Ends w0 gl g1 g2 B w' v' (q ++ [⟨at_, { r with prev := last }, .slice none 0 0, .slice none 0 0⟩]) at_ (at_ + 10) ∧ ∀ u U, RecsE w u U → Sep gl g1 g2 w u v → RecsE w' u U ∧ Sep gl g1 g2 w' u v' := by
  have H := Lib.hid h
  obtain ⟨i0, hi, hz⟩ := Option.map_eq_some_iff.1 infoEnt
  simp only [Prod.mk.injEq] at hz
  obtain ⟨hz0, hz1, hz2⟩ := hz
  have hlt := h.lst.lt
  have hl1 := h.la.lt
  have hl2 := h.aa.lt
  have c0 := h.lst.cell 0
  have c1 := h.la.cell 0
  have c2 := h.aa.cell 0
  have f0 := h.lst.frozen 0
  have f1 := h.la.frozen 0
  have f2 := h.aa.frozen 0
  simp only [List.getElem?_toArray, List.getElem?_cons_zero] at c0 c1 c2
  have HROW := Lib.hid (And.intro hr hrb)
  clear h hr hrb
  unfold recV recCells
  go_enter Try.func18, Try.ntmps18
  go_upto_region 2 with fail
  obtain ⟨X, hX⟩ : ∃ X : Array Value, X = #[.int .i64 r.kind, .int .i64 r.txn, .int .i64 r.page, .int .i64 r.off, .int .i64 last, .int .i64 r.next, .int .i64 r.beg, .string r.before, .string r.after, .slice none 0 0, .slice none 0 0] := ⟨_, rfl⟩
  rw [← hX]
  have xb := Blk.new w 45 X
  have bx := (Below.refl w.heap.size w).alloc (Nat.le_refl _) (.cells X 45)
  have ex := H.out.more bx
  generalize hwx : w.alloc (.cells X 45) = wx at *
  rw [hX] at xb
  have d0 := xb.cell 0
  have d1 := xb.cell 1
  have d2 := xb.cell 2
  have d3 := xb.cell 3
  have d4 := xb.cell 4
  have d5 := xb.cell 5
  have d6 := xb.cell 6
  have d7 := xb.cell 7
  have d8 := xb.cell 8
  have d9 := xb.cell 9
  have d10 := xb.cell 10
  simp only [List.getElem?_toArray, List.getElem?_cons_zero, List.getElem?_cons_succ] at d0 d1 d2 d3 d4 d5 d6 d7 d8 d9 d10
  have EX := Lib.hid ex
  have BX := Lib.hid bx
  have wxz := ex.z
  have c0 := ex.lst.cell 0
  have c1 := ex.la.cell 0
  have c2 := ex.aa.cell 0
  simp only [List.getElem?_toArray, List.getElem?_cons_zero] at c0 c1 c2
  clear hX xb bx hwx f0 f1 f2 hlt hl1 hl2 ex
  go_wp2_with (at_builtin; refine wpList_append_own_at _ rfl (.tmp 7) (.tmp 11) 22 rfl B 47 i0 _ 12 144 Try.underlying22 hi hz0 hz1 hz2 rfl (by decide) _ _ _ rfl (EX.out.own.alloc _) ⟨wx.heap.size, 0, none⟩ 1 1 [.int .i64 at_, .int .i64 r.kind, .int .i64 r.txn, .int .i64 r.page, .int .i64 r.off, .int .i64 last, .int .i64 r.next, .int .i64 r.beg, .string r.before, .string r.after, .slice none 0 0, .slice none 0 0] rfl rfl (World.news_of_block (Blk.new _ _ _)) (by simp [Value.oneCell']) (by simp only [maxLen]; omega) (by omega) (by simp; omega) ?_; intro v' w6 hown' hgrow _ hat; obtain ⟨g', cap', rfl⟩ := ownsRow_succ hown'; have kb : ∀ b, b < B → b < wx.heap.size → w6.heap[b]? = wx.heap[b]? := fun b h1 h2 => (hgrow.block b (by simp; omega) fun e => by have := (EX.out.own.lt b e.symm).1; omega).trans (Below.heap_alloc wx _ b h2); have l6 : Blk w6 gl 22 #[v] := (kb gl EX.out.lt.1 EX.out.lst.lt).trans EX.out.lst; have a6 : Blk w6 g1 3 #[.int .i64 last] := (kb g1 EX.out.lt.2.1 EX.out.la.lt).trans EX.out.la; have n6 : Blk w6 g2 3 #[.int .i64 at_] := (kb g2 EX.out.lt.2.2 EX.out.aa.lt).trans EX.out.aa; have e0 := l6.cell 0; have e1 := a6.cell 0; have e2 := n6.cell 0; have k0 := l6.frozen 0; have k1 := a6.frozen 0; have k2 := n6.frozen 0; simp only [List.getElem?_toArray, List.getElem?_cons_zero] at e0 e1 e2; have hne := EX.out.ne)
  go_end0
  have W7 : ∀ b, b ≠ gl → b ≠ g1 → b ≠ g2 → (((w6.setCell ⟨gl, 0, none⟩ (.slice (some ⟨g', 0, none⟩) (q.length + 1) cap')).setCell ⟨g1, 0, none⟩ (.int .i64 at_)).setCell ⟨g2, 0, none⟩ (.int .i64 (at_ + 10))).heap[b]? = w6.heap[b]? := fun b h1 h2 h3 => by
    rw [heap_setCell_other _ ⟨g2, 0, none⟩ _ _ h3, heap_setCell_other _ ⟨g1, 0, none⟩ _ _ h2, heap_setCell_other _ ⟨gl, 0, none⟩ _ _ h1]
  have Z7 : (((w6.setCell ⟨gl, 0, none⟩ (.slice (some ⟨g', 0, none⟩) (q.length + 1) cap')).setCell ⟨g1, 0, none⟩ (.int .i64 at_)).setCell ⟨g2, 0, none⟩ (.int .i64 (at_ + 10))).heap.size = w6.heap.size := by simp [World.setCell]
  have hge := EX.out.ge
  have hlt := EX.out.lt
  have hz6 : wx.heap.size ≤ w6.heap.size := by have := hgrow.size; simp at this; omega
  have hx : w.heap.size ≤ wx.heap.size := BX.out.size
  have B6 : Below w0.heap.size w0 w6 := (EX.out.below.alloc EX.out.below.size _).grown hgrow (by simp; have := EX.out.below.size; omega) fun j ej => by have := (EX.out.own.lt j ej).1; omega
  have hnot : ∀ b, b < B → (Value.slice (some ⟨g', 0, none⟩) (q.length + 1) cap').ownBlock ≠ some b := fun b hb e => by have := (hown'.lt b e).1; omega
  refine ⟨⟨_, rfl⟩, _, ⟨((B6.setCell (p := ⟨gl, 0, none⟩) hge.1 _).setCell (p := ⟨g1, 0, none⟩) hge.2.1 _).setCell (p := ⟨g2, 0, none⟩) hge.2.2 _,
    ((l6.set 0 _).far (p := ⟨g1, 0, none⟩) hne.1 _).far (p := ⟨g2, 0, none⟩) hne.2.1 _, ?_, ((a6.far (p := ⟨gl, 0, none⟩) hne.1.symm _).set 0 _).far (p := ⟨g2, 0, none⟩) hne.2.2 _, ((n6.far (p := ⟨gl, 0, none⟩) hne.2.1.symm _).far (p := ⟨g1, 0, none⟩) hne.2.2.symm _).set 0 _, ?_, hge, hlt, hne, by rw [Z7]; omega⟩, ?_⟩
  · have k := ((hown'.kept (grownBy_setCell' w6 gl (.slice (some ⟨g', 0, none⟩) (q.length + 1) cap')) (.inr (hnot gl hlt.1))).kept (grownBy_setCell' _ g1 (.int .i64 at_)) (.inr (hnot g1 hlt.2.1))).kept (grownBy_setCell' _ g2 (.int .i64 (at_ + 10))) (.inr (hnot g2 hlt.2.2))
    rw [qV_snoc, List.length_append]
    exact k
  · intro x hx'
    rcases List.mem_append.1 hx' with hx' | hx'
    · exact EX.out.rows x hx'
    · rw [List.mem_singleton.1 hx']
      exact ⟨rfl, rfl, HROW.out.1.1, HROW.out.1.2, HROW.out.2⟩
  · intro u U hu hs
    have hon : Only (fun b => b = gl ∨ b = g1 ∨ b = g2 ∨ v.ownBlock = some b) w (((w6.setCell ⟨gl, 0, none⟩ (.slice (some ⟨g', 0, none⟩) (q.length + 1) cap')).setCell ⟨g1, 0, none⟩ (.int .i64 at_)).setCell ⟨g2, 0, none⟩ (.int .i64 (at_ + 10))) :=
      ⟨hgrow.os.trans BX.out.os, hgrow.tape.trans BX.out.tape, hgrow.output.trans BX.out.output, by rw [Z7]; omega, fun b hb hS => by
        rw [W7 b (fun e => hS (.inl e)) (fun e => hS (.inr (.inl e))) (fun e => hS (.inr (.inr (.inl e))))]
        rw [hgrow.block b (by simp; omega) (fun e => hS (.inr (.inr (.inr e.symm)))), Below.heap_alloc wx _ b (by omega), BX.out.block b hb]⟩
    refine ⟨Elems.keepS hu hon fun _ b hb hS => ?_, fun b hb => ?_⟩
    · obtain ⟨_, h1, h2, h3, h4⟩ := hs b hb
      rcases hS with h | h | h | h
      · exact h1 h
      · exact h2 h
      · exact h3 h
      · exact h4 h
    · obtain ⟨h0, h1, h2, h3, h4⟩ := hs b hb
      refine ⟨by rw [Z7]; omega, h1, h2, h3, fun e => ?_⟩
      rcases hat with h | h
      · exact h4 (h.symm.trans e)
      · rw [e] at h
        have h5 : b = _ := Option.some.inj h
        rw [World.size_alloc] at h5
        omega
end Go.Proofs.Ytecalnglidjmgaa
