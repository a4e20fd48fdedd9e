/- AnalysisCheck: the list that is written on, in memory; put. -/
import Derived.Test.YtgjkhjlobfblcaaAsG
import Derived.Test.YtgjkhjlobfblcaaAnD
namespace Go.Proofs.Ytgjkhjlobfblcaa
open Go.RowKit
set_option linter.unusedSimpArgs false

/-- A value that lies apart from the list. -/
def Far13 (gl : Nat) (w : World) (v u : Value) : Prop := ∀ b, u.ownBlock = some b → b < w.heap.size ∧ b ≠ gl ∧ v.ownBlock ≠ some b
/-- The list, in its variable. -/
structure Chk (w0 : World) (gl B : Nat) (w : World) (v : Value) (q : List Qx) : Prop where
  below : Below w0.heap.size w0 w
  lst : Blk w gl 22 #[v]
  own : w.ownsRow B 30 12 v q.length (qV q)
  rows : ∀ x ∈ q, Lists w0 x.r x.vt x.vp ∨ (Lists w x.r x.vt x.vp ∧ Far13 gl w v x.vt ∧ Far13 gl w v x.vp)
  ge : w0.heap.size ≤ gl
  lt : gl < B
  z : B ≤ w.heap.size
namespace Chk
variable {w0 w w' : World} {gl B : Nat} {v : Value} {q : List Qx}
theorem more (h : Chk w0 gl B w v q) (hb : Below w.heap.size w w') : Chk w0 gl B w' v q :=
  ⟨h.below.trans (hb.mono h.below.size), h.lst.keep hb h.lst.lt, own_below h.own hb, fun x hx => (h.rows x hx).imp_right fun ⟨h1, h2, h3⟩ => ⟨h1.keep hb, fun b e => ⟨Nat.lt_of_lt_of_le (h2 b e).1 hb.size, (h2 b e).2⟩, fun b e => ⟨Nat.lt_of_lt_of_le (h3 b e).1 hb.size, (h3 b e).2⟩⟩, h.ge, h.lt, Nat.le_trans h.z hb.size⟩
theorem isEnts (h : Chk w0 gl B w v q) : IsEnts w v (q.map Qx.ent) := qEnts h.own fun x hx => (h.rows x hx).elim (fun h1 => h1.keep h.below) fun h1 => h1.1
end Chk

set_option maxRecDepth 100000 in
set_option maxHeartbeats 16000000 in
theorem putChk {w0 w : World} {gl B : Nat} {v : Value} {q : List Qx} (h : Chk w0 gl B w v q) (r : Rc) (vt vp : Value) (hr : Lists w0 r vt vp ∨ (Lists w r vt vp ∧ Far13 gl w v vt ∧ Far13 gl w v vp)) (hq : q.length ≤ 900) :
    Calls Try.prog 7 #[recV r vt vp, .pointer (some ⟨gl, 0, none⟩)] w fun e w' =>
      e = .returned (.int .i64 (128 + 10 * (q.length : Int))) ∧ ∃ v', Chk w0 gl B w' v' (q ++ [⟨128 + 10 * (q.length : Int), r, vt, vp⟩]) := by
  have H := Lib.hid h
  obtain ⟨i0, hi, hz⟩ := Option.map_eq_some_iff.1 infoEnt
  simp only [Prod.mk.injEq] at hz
  obtain ⟨hz0, hz1, hz2⟩ := hz
  have HROW := Lib.hid hr
  obtain ⟨ta, tn, tc, rfl⟩ : SlV vt := hr.elim (fun h => h.t.sl) fun h => h.1.t.sl
  obtain ⟨pa, pn, pc, rfl⟩ : SlV vp := hr.elim (fun h => h.p.sl) fun h => h.1.p.sl
  obtain ⟨va, vc, rfl⟩ := own_slice h.own
  have hlt := h.lst.lt
  have c0 := h.lst.cell 0
  have f0 := h.lst.frozen 0
  simp only [List.getElem?_toArray, List.getElem?_cons_zero] at c0
  obtain ⟨at_, hat⟩ : ∃ at_ : Int, 128 + 10 * (q.length : Int) = at_ := ⟨_, rfl⟩
  have HAT := Lib.hid hat
  clear h hr
  unfold recV recCells
  go_enter Try.func7, Try.ntmps7
  go_upto_region 2 with fail
  obtain ⟨X, hX⟩ : ∃ X : Array Value, X = #[.int .i64 r.kind, .int .i64 r.txn, .int .i64 r.page, .int .i64 r.off, .int .i64 r.prev, .int .i64 r.next, .int .i64 r.beg, .string r.before, .string r.after, .slice ta tn tc, .slice pa pn pc] := ⟨_, rfl⟩
  rw [← hX]
  have xb := Blk.new w 28 X
  have bx := (Below.refl w.heap.size w).alloc (Nat.le_refl _) (.cells X 28)
  have ex := H.out.more bx
  generalize hwx : w.alloc (.cells X 28) = wx at *
  rw [hX] at xb
  have d0 := xb.cell 0
  have d1 := xb.cell 1
  have d2 := xb.cell 2
  have d3 := xb.cell 3
  have d4 := xb.cell 4
  have d5 := xb.cell 5
  have d6 := xb.cell 6
  have d7 := xb.cell 7
  have d8 := xb.cell 8
  have d9 := xb.cell 9
  have d10 := xb.cell 10
  simp only [List.getElem?_toArray, List.getElem?_cons_zero, List.getElem?_cons_succ] at d0 d1 d2 d3 d4 d5 d6 d7 d8 d9 d10
  have EX := Lib.hid ex
  have BX := Lib.hid bx
  have wxz := ex.z
  have c0 := ex.lst.cell 0
  simp only [List.getElem?_toArray, List.getElem?_cons_zero] at c0
  rw [hX]
  clear hX xb bx hwx f0 hlt ex hat
  go_wp2_with (at_builtin; refine wpList_append_own_at _ rfl (.tmp 9) (.tmp 13) 22 rfl B 30 i0 _ 12 144 Try.underlying22 hi hz0 hz1 hz2 rfl (by decide) _ _ _ rfl (EX.out.own.alloc _) ⟨wx.heap.size, 0, none⟩ 1 1 [.int .i64 at_, .int .i64 r.kind, .int .i64 r.txn, .int .i64 r.page, .int .i64 r.off, .int .i64 r.prev, .int .i64 r.next, .int .i64 r.beg, .string r.before, .string r.after, .slice ta tn tc, .slice pa pn pc] rfl rfl (World.news_of_block (Blk.new _ _ _)) (by simp [Value.oneCell']) (by simp only [maxLen]; omega) (by omega) (by simp; omega) ?_; intro v' w6 hown' hgrow _ hat; obtain ⟨g', cap', rfl⟩ := ownsRow_succ hown'; have kb : ∀ b, b < wx.heap.size → (Value.slice va q.length vc).ownBlock ≠ some b → w6.heap[b]? = wx.heap[b]? := fun b h2 h3 => (hgrow.block b (by simp; omega) fun e => h3 e.symm).trans (Below.heap_alloc wx _ b h2); have nb : ∀ b, b < B → (Value.slice va q.length vc).ownBlock ≠ some b := fun b hb e => by { have := (EX.out.own.lt b e).1; omega }; have l6 : Blk w6 gl 22 #[.slice va q.length vc] := (kb gl EX.out.lst.lt (nb gl EX.out.lt)).trans EX.out.lst; have e0 := l6.cell 0; have k0 := l6.frozen 0; simp only [List.getElem?_toArray, List.getElem?_cons_zero] at e0)
  obtain ⟨v, hv⟩ : ∃ v, v = Value.slice va q.length vc := ⟨_, rfl⟩
  rw [← hv] at hgrow nb kb hat
  obtain ⟨v', hv'⟩ : ∃ v', v' = Value.slice (some ⟨g', 0, none⟩) (q.length + 1) cap' := ⟨_, rfl⟩
  rw [← hv'] at hown' hat ⊢
  have OWN := Lib.hid hown'
  have L6 := Lib.hid l6
  have hge := EX.out.ge
  have hlt := EX.out.lt
  have B6 : Below w0.heap.size w0 w6 := (EX.out.below.alloc EX.out.below.size _).grown hgrow (by simp; have := EX.out.below.size; omega) fun j ej => by have := (EX.out.own.lt j (by rw [← hv]; exact ej)).1; omega
  have Z7 : (w6.setCell ⟨gl, 0, none⟩ v').heap.size = w6.heap.size := by simp [World.setCell]
  have hz6 : wx.heap.size ≤ w6.heap.size := by have := hgrow.size; simp at this; omega
  have hon : Only (fun b => b = gl ∨ v.ownBlock = some b) wx (w6.setCell ⟨gl, 0, none⟩ v') :=
    ⟨hgrow.os, hgrow.tape, hgrow.output, by rw [Z7]; exact hz6, fun b hb hS => by
      rw [heap_setCell_other _ ⟨gl, 0, none⟩ _ _ (fun e => hS (.inl e)), kb b hb (fun e => hS (.inr e))]⟩
  have hfar : ∀ u, Far13 gl wx v u → Far13 gl (w6.setCell ⟨gl, 0, none⟩ v') v' u := fun u hu b hb => by
    obtain ⟨h1, h2, h3⟩ := hu b hb
    refine ⟨by rw [Z7]; omega, h2, fun e => ?_⟩
    rcases hat with h | h
    · exact h3 (h.symm.trans e)
    · rw [e] at h
      have h5 : b = _ := Option.some.inj h
      rw [World.size_alloc] at h5
      omega
  have hrow : ∀ (r : Rc) (vt vp : Value), (Lists w0 r vt vp ∨ (Lists wx r vt vp ∧ Far13 gl wx v vt ∧ Far13 gl wx v vp)) → Lists w0 r vt vp ∨ (Lists (w6.setCell ⟨gl, 0, none⟩ v') r vt vp ∧ Far13 gl (w6.setCell ⟨gl, 0, none⟩ v') v' vt ∧ Far13 gl (w6.setCell ⟨gl, 0, none⟩ v') v' vp) :=
    fun r vt vp h => h.imp_right fun ⟨h1, h2, h3⟩ => ⟨h1.keepS hon (fun b hb hS => hS.elim (h2 b hb).2.1 (h2 b hb).2.2) (fun b hb hS => hS.elim (h3 b hb).2.1 (h3 b hb).2.2), hfar _ h2, hfar _ h3⟩
  have FIN : Hid (Chk w0 gl B (w6.setCell ⟨gl, 0, none⟩ v') v' (q ++ [⟨128 + 10 * (q.length : Int), r, .slice ta tn tc, .slice pa pn pc⟩])) := by
    refine ⟨B6.setCell (p := ⟨gl, 0, none⟩) hge _, L6.out.set 0 _, ?_, ?_, hge, hlt, by rw [Z7]; have := EX.out.z; omega⟩
    · have k := OWN.out.kept (grownBy_setCell' w6 gl v') (.inr fun e => by have := (OWN.out.lt gl e).1; omega)
      rw [qV_snoc, List.length_append, HAT.out]
      exact k
    · intro x hx
      rcases List.mem_append.1 hx with hx | hx
      · exact hrow _ _ _ (by rw [hv]; exact EX.out.rows x hx)
      · rw [List.mem_singleton.1 hx]
        refine hrow _ _ _ (HROW.out.imp_right fun ⟨h1, h2, h3⟩ => ⟨h1.keep BX.out, fun b e => ?_, fun b e => ?_⟩)
        · have := h2 b e
          exact ⟨Nat.lt_of_lt_of_le this.1 BX.out.size, this.2.1, by rw [hv]; exact this.2.2⟩
        · have := h3 b e
          exact ⟨Nat.lt_of_lt_of_le this.1 BX.out.size, this.2.1, by rw [hv]; exact this.2.2⟩
  clear hrow hfar hon B6 hown' l6 hgrow kb nb hat e0 k0
  go_ret
  exact ⟨by rw [HAT.out]; rfl, _, FIN.out⟩

/-- The list in its variable, with what it holds. -/
def Wr13 (w1 : World) (gl : Nat) (W : World) (rs : List Rc) : Prop := ∃ v q, Chk w1 gl (gl + 1) W v q ∧ q.map (·.r) = rs ∧ q.map Qx.ent = An.place 0 rs
namespace Wr13
variable {w1 W W' : World} {gl : Nat} {rs : List Rc}
theorem more (h : Wr13 w1 gl W rs) (hb : Below W.heap.size W W') : Wr13 w1 gl W' rs := by
  obtain ⟨v, q, h1, h2⟩ := h
  exact ⟨v, q, h1.more hb, h2⟩
theorem below (h : Wr13 w1 gl W rs) : Below w1.heap.size w1 W := by
  obtain ⟨v, q, h1, h2⟩ := h
  exact h1.below
theorem start (w1 : World) : Wr13 w1 w1.heap.size (w1.alloc (.cells #[.slice none 0 0] 22)) [] :=
  ⟨_, [], ⟨(Below.refl _ _).alloc (Nat.le_refl _) _, Blk.new w1 _ _, World.ownsRow_nil _ _ _ 12, nofun, Nat.le_refl _, by omega, by simp⟩, rfl, rfl⟩
theorem look (h : Wr13 w1 gl W rs) : ∃ a c, W.cell? ⟨gl, 0, none⟩ = some (.slice a rs.length c) ∧ IsEnts W (.slice a rs.length c) (An.place 0 rs) := by
  obtain ⟨v, q, h1, h2, h3⟩ := h
  have hl : q.length = rs.length := by rw [← h2, List.length_map]
  obtain ⟨a, c, rfl⟩ := own_slice h1.own
  have c0 := h1.lst.cell 0
  simp only [List.getElem?_toArray, List.getElem?_cons_zero] at c0
  have he := h1.isEnts
  rw [h3] at he
  rw [hl] at c0 he
  exact ⟨a, c, c0, he⟩
theorem putAny {W0 : World} (h : Wr13 w1 gl W0 rs) (hb : Below W0.heap.size W0 W) (r : Rc) (vt vp : Value) (hr : Lists w1 r vt vp ∨ (Lists W r vt vp ∧ ∀ b, vt.ownBlock = some b ∨ vp.ownBlock = some b → W0.heap.size ≤ b ∧ b < W.heap.size)) (hl : rs.length ≤ 900) :
    Calls Try.prog 7 #[recV r vt vp, .pointer (some ⟨gl, 0, none⟩)] W fun e w' => e = .returned (.int .i64 (128 + 10 * (rs.length : Int))) ∧ Wr13 w1 gl w' (rs ++ [r]) := by
  obtain ⟨v, q, h1, h2, h3⟩ := h
  have hq : q.length = rs.length := by rw [← h2, List.length_map]
  have hgl := h1.lst.lt
  have hfar : ∀ u : Value, (∀ b, u.ownBlock = some b → W0.heap.size ≤ b ∧ b < W.heap.size) → Far13 gl W v u := fun u hu b e => by
    have := hu b e
    refine ⟨this.2, by omega, fun e2 => ?_⟩
    have := (h1.own.lt b e2).2
    omega
  refine (putChk (h1.more hb) r vt vp (hr.imp_right fun ⟨a, c⟩ => ⟨a, hfar _ fun b e => c b (.inl e), hfar _ fun b e => c b (.inr e)⟩) (by omega)).mono ?_
  rintro e w' ⟨rfl, v', k⟩
  refine ⟨by rw [hq], v', _, k, by rw [List.map_append, h2]; rfl, ?_⟩
  rw [List.map_append, h3, An.place_app, hq, Nat.zero_add]
  rfl
theorem put (h : Wr13 w1 gl W rs) (r : Rc) (vt vp : Value) (hr : Lists w1 r vt vp) (hl : rs.length ≤ 900) :
    Calls Try.prog 7 #[recV r vt vp, .pointer (some ⟨gl, 0, none⟩)] W fun e w' => e = .returned (.int .i64 (128 + 10 * (rs.length : Int))) ∧ Wr13 w1 gl w' (rs ++ [r]) := h.putAny (Below.refl _ _) r vt vp (.inl hr) hl
end Wr13
end Go.Proofs.Ytgjkhjlobfblcaa
