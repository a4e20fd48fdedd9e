/- Package table: Row; what is in the map, as a list; Begin and End in memory. -/
import Derived.Test.YtfbghdkbimnnbaaTbB
import Derived.Test.YtfbghdkbimnnbaaRegionT
namespace Go.Proofs.Ytfbghdkbimnnbaa
open Go.RowKit Go.MapKept

theorem results_ctt {P : Program} {fn : Func} {p u v : Tmp} {ty : TypeId} (h : fn.results = #[.cell p ty, .tmp u, .tmp v]) (tmps : Array Value) (w : World) (g : Nat) (t : TypeId) (cs : Array Value) (d : TypeDesc)
    (hp : tmps.getD p undef = .pointer (some ⟨g, 0, none⟩)) (hg : Blk w g t cs)
    (hu : P.underlying ty = some d) (hd : (match d with | .struct _ | .array _ _ => true | _ => false) = true) (hi : (P.info? ty).map (·.size) = some cs.size) :
    (results fn tmps).run P w = .ok (.tuple #[.agg cs, tmps.getD u undef, tmps.getD v undef]) w := by
  have hp' : tmps[p]?.getD undef = .pointer (some ⟨g, 0, none⟩) := by simpa using hp
  simp [results, h, hp', asAddr, run_loadVar_row w g t ty cs (0, 0) d hg hu hd hi]
/-- A row's cells. -/
def rwCells (p : Int × Int × Int) : Array Value := #[.int .i64 p.1, .int .i64 p.2.1, .int .i64 p.2.2]
namespace Tb
def rowT (l : Tb) (t : Int) : (Int × Int × Int) × Int × Nat := match l.at_ t with
  | none => ((0, 0, 0), 0, 7)
  | some x => ((x.txn, x.first, x.last), x.left, 0)
theorem txns_nodup {l : Tb} (h : l.Ok) : (l.map (·.txn)).Nodup := by
  rw [List.nodup_iff_pairwise_ne, List.pairwise_map]
  exact h.rise.imp fun hab heq => by omega
end Tb
theorem txnsList {w : World} {b : Nat} {B : Int → Nat} {l : Tb} (h : Txns w (some b) B l) (ho : l.Ok) :
    ∃ es clock, w.heap[b]? = some (.map es clock) ∧ Stamped es clock ∧ (es.toList.map fun e => (e.key, e.val)).Perm (l.map fun x => (Value.int .i64 x.txn, Value.pointer (some ⟨B x.txn, 0, none⟩))) := by
  refine BMap.list h.some (T := l) (fun x => x.txn) (fun x => .pointer (some ⟨B x.txn, 0, none⟩)) (Tb.txns_nodup ho) (fun x hx => ?_) fun i v hv => ?_
  · unfold ptrs
    rw [Tb.at_mem ho.rise hx]
    rfl
  · unfold ptrs at hv
    cases ha : l.at_ i with
    | none => rw [ha] at hv; cases hv
    | some x => exact ⟨x, Tb.at_some ha⟩
theorem len10 {w : World} {m : Option Nat} {B : Int → Nat} {l : Tb} (h : Txns w m B l) (ho : l.Ok) :
    (Builtin.len_ #[60] 3 #[.map m]).run Try.prog w = .ok (.int .i64 l.length) w := by
  cases m with
  | none =>
    obtain rfl : l = [] := h
    simp [Builtin.len_, run_underlying Try.underlying60, Result.andThen, goInt]
  | some b =>
    obtain ⟨es, c, hb, _, hp⟩ := txnsList h ho
    have hs : es.size = l.length := by
      have := hp.length_eq
      simpa using this
    simp [Builtin.len_, run_underlying Try.underlying60, Result.andThen, goInt, MapKept.run_getObj_map hb, hs]
theorem put10 {w : World} {b : Nat} {f : Int → Option Value} (h : BMap w b f) (t : Int) (v : Value) :
    ∃ w', (Instr.mapUpdate 60 (.map (some b)) (.int .i64 t) v).run Try.prog w = .ok () w' ∧ BMap w' b (fun c => if c = t then some v else f c) ∧ (∀ c, c ≠ b → w'.heap[c]? = w.heap[c]?) ∧ w'.heap.size = w.heap.size ∧ ∀ F : Foot, F b → Step F F w w' := by
  obtain ⟨o, h1, h2⟩ := h.put Try.underlying60 Try.underlying3 t v
  exact ⟨_, h1, h2, fun c hc => (show (w.heap.setIfInBounds b o)[c]? = _ by rw [Array.getElem?_setIfInBounds, if_neg hc.symm]), by simp, fun F hF => (Step.refl F w).setObj hF o⟩
theorem drop10 {w : World} {b : Nat} {f : Int → Option Value} (h : BMap w b f) (t : Int) :
    ∃ w', (Builtin.delete_ #[60, 3] 0 #[.map (some b), .int .i64 t]).run Try.prog w = .ok (.tuple #[]) w' ∧ BMap w' b (fun c => if c = t then none else f c) ∧ (∀ c, c ≠ b → w'.heap[c]? = w.heap[c]?) ∧ w'.heap.size = w.heap.size ∧ ∀ F : Foot, F b → Step F F w w' := by
  obtain ⟨o, h1, h2⟩ := h.drop Try.underlying60 Try.underlying3 t 0
  exact ⟨_, h1, h2, fun c hc => (show (w.heap.setIfInBounds b o)[c]? = _ by rw [Array.getElem?_setIfInBounds, if_neg hc.symm]), by simp, fun F hF => (Step.refl F w).setObj hF o⟩
namespace TbRaw
variable {w w' : World} {F : Foot} {q : Nat} {m : Option Nat} {B : Int → Nat} {V : Int → Value} {l : Tb} {b : Nat}
/-- The map is made. -/
theorem mapped (r : TbRaw w F q none B V l) :
    TbRaw ((w.alloc (.map #[] 0)).setCell ⟨q, 0, none⟩ (.map (some w.heap.size))) (fun b => F b ∨ b = w.heap.size) q (some w.heap.size) B V l ∧ Step F (fun b => F b ∨ b = w.heap.size) w ((w.alloc (.map #[] 0)).setCell ⟨q, 0, none⟩ (.map (some w.heap.size))) := by
  obtain rfl : l = [] := r.map
  have hlq := r.lt q r.fq
  have hqn : q ≠ w.heap.size := by omega
  have hq : Blk (w.alloc (.map #[] 0)) q 62 #[.map none] := r.head.alloc _
  refine ⟨⟨hq.set 0 _, ?_, nofun, nofun, nofun, nofun, .inl r.fq, fun b h => ?_, nofun, nofun, fun b hb => ?_⟩, ?_⟩
  · exact ((BMap.made w).congr fun c => by simp [ptrs, Tb.at_]).keep (heap_setCell_other _ ⟨q, 0, none⟩ w.heap.size _ hqn.symm)
  · cases h; exact .inr rfl
  · have e : ((w.alloc (.map #[] 0)).setCell ⟨q, 0, none⟩ (.map (some w.heap.size))).heap.size = w.heap.size + 1 := by simp [World.setCell]
    rw [e]
    rcases hb with hb | hb
    · have := r.lt b hb; omega
    · omega
  · have h := ((Step.refl F w).alloc (.map #[] 0)).set (p := ⟨q, 0, none⟩) r.fq (.map (some w.heap.size))
    exact ⟨h.os, h.tape, h.output, h.size, h.block, fun b g => g.elim .inl fun e => .inr (by rw [e]; exact Nat.le_refl _)⟩
/-- A transaction is there. -/
theorem born (r : TbRaw w F q (some b) B V l) {t : Int} (hx : l.at_ t = none) {w' : World}
    (hm : BMap w' b fun c => if c = t then some (.pointer (some ⟨w.heap.size, 0, none⟩)) else ptrs B l c) (ho : ∀ c, c ≠ b → w'.heap[c]? = (w.alloc (.cells (stCells ⟨t, 0, 0, 0, []⟩ (.slice none 0 0)) 66)).heap[c]?) (hs : w'.heap.size = (w.alloc (.cells (stCells ⟨t, 0, 0, 0, []⟩ (.slice none 0 0)) 66)).heap.size) :
    TbRaw w' (fun b => F b ∨ b = w.heap.size) q (some b) (fun i => if i = t then w.heap.size else B i) (fun i => if i = t then .slice none 0 0 else V i) (Tb.ins ⟨t, 0, 0, 0, []⟩ l) := by
  have hne : ∀ x ∈ l, x.txn ≠ t := Tb.at_none hx
  have hbl := r.lt b (r.fm b rfl)
  have hs1 : w'.heap.size = w.heap.size + 1 := by rw [hs]; simp
  have hX := Blk.new w 66 (stCells ⟨t, 0, 0, 0, []⟩ (.slice none 0 0))
  have hk : ∀ c, c < w.heap.size → c ≠ b → w'.heap[c]? = w.heap[c]? := fun c hc hcb => (ho c hcb).trans (Below.heap_alloc w _ c hc)
  have hqb : q ≠ b := r.map.some.cells r.head
  refine ⟨(hk q (r.lt q r.fq) hqb).trans r.head, ?_, fun y hy => ?_, fun y hy => ?_, fun y hy z hz => ?_, fun y hy z hz c => ?_, .inl r.fq, fun c hc => .inl (r.fm c hc), fun y hy => ?_, fun y hy c hc => ?_, fun c hc => ?_⟩
  · refine hm.congr fun i => ?_
    unfold ptrs
    rw [Tb.at_ins i hx]
    by_cases hi : i = t
    · rw [if_pos hi, if_pos hi]; simp [hi]
    · rw [if_neg hi, if_neg hi]; cases l.at_ i <;> simp [hi]
  · rcases Tb.mem_ins.1 hy with rfl | hy
    · simp only [if_pos]
      exact (ho _ (by omega)).trans hX
    · simp only [if_neg (hne y hy)]
      exact (hk _ (r.lt _ (r.fb y hy)) (r.map.some.cells (r.st y hy))).trans (r.st y hy)
  · rcases Tb.mem_ins.1 hy with rfl | hy
    · simp only [if_pos]
      exact World.ownsRow_nil _ _ _ _
    · simp only [if_neg (hne y hy)]
      exact own_keep (r.mks y hy) fun c hc => hk c (r.lt c (r.fv y hy c hc)) fun e => own_map (r.mks y hy) r.map.some.isMap (e ▸ hc)
  · rcases Tb.mem_ins.1 hy with rfl | hy <;> rcases Tb.mem_ins.1 hz with rfl | hz
    · intro _; rfl
    · simp only [if_pos, if_neg (hne z hz)]
      intro e
      have := r.lt _ (r.fb z hz); omega
    · simp only [if_pos, if_neg (hne y hy)]
      intro e
      have := r.lt _ (r.fb y hy); omega
    · simp only [if_neg (hne y hy), if_neg (hne z hz)]
      exact r.apartB y hy z hz
  · rcases Tb.mem_ins.1 hy with rfl | hy <;> rcases Tb.mem_ins.1 hz with rfl | hz
    · intro _ _; rfl
    · simp only [if_pos]
      intro h; simp [Value.ownBlock] at h
    · simp only [if_pos]
      intro _ h; simp [Value.ownBlock] at h
    · simp only [if_neg (hne y hy), if_neg (hne z hz)]
      exact r.apartV y hy z hz c
  · rcases Tb.mem_ins.1 hy with rfl | hy
    · simp only [if_pos]; exact .inr trivial
    · simp only [if_neg (hne y hy)]; exact .inl (r.fb y hy)
  · rcases Tb.mem_ins.1 hy with rfl | hy
    · simp only [if_pos] at hc; simp [Value.ownBlock] at hc
    · simp only [if_neg (hne y hy)] at hc; exact .inl (r.fv y hy c hc)
  · rw [hs1]
    rcases hc with hc | hc
    · have := r.lt c hc; omega
    · omega
/-- A transaction is over. -/
theorem died (r : TbRaw w F q (some b) B V l) {t : Int} {w' : World} (hm : BMap w' b fun c => if c = t then none else ptrs B l c) (ho : ∀ c, c ≠ b → w'.heap[c]? = w.heap[c]?) (hs : w'.heap.size = w.heap.size) : TbRaw w' F q (some b) B V (l.del t) := by
  have hd : ∀ y ∈ l.del t, y ∈ l := fun y hy => (List.mem_filter.1 hy).1
  have hqb : q ≠ b := r.map.some.cells r.head
  refine ⟨(ho q hqb).trans r.head, ?_, fun y hy => ?_, fun y hy => ?_, fun y hy z hz => r.apartB y (hd y hy) z (hd z hz), fun y hy z hz c => r.apartV y (hd y hy) z (hd z hz) c, r.fq, r.fm, fun y hy => r.fb y (hd y hy), fun y hy => r.fv y (hd y hy), fun c hc => by rw [hs]; exact r.lt c hc⟩
  · refine hm.congr fun i => ?_
    unfold ptrs
    rw [Tb.at_del]
    by_cases hi : i = t
    · rw [if_pos hi, if_pos hi]; rfl
    · rw [if_neg hi, if_neg hi]
  · exact (ho _ (r.map.some.cells (r.st y (hd y hy)))).trans (r.st y (hd y hy))
  · exact own_keep (r.mks y (hd y hy)) fun c hc => ho c fun e => own_map (r.mks y (hd y hy)) r.map.some.isMap (e ▸ hc)
end TbRaw
section
variable {w : World} {F : Foot} {q : Nat} {l : Tb}
set_option maxRecDepth 100000 in
set_option maxHeartbeats 8000000 in
theorem tbRow_none (h : IsTab w F q l) (t : Int) (hx : l.at_ t = none) :
    Calls Try.prog 22 #[.pointer (some ⟨q, 0, none⟩), .int .i64 t] w fun e w' => e = .returned (.tuple #[.agg #[.int .i64 0, .int .i64 0, .int .i64 0], .int .i64 0, .int .i64 7]) ∧ Below w.heap.size w w' := by
  have K : Hid (∀ W, Below w.heap.size w W → _) := fun W hW => by
    obtain ⟨ho, m, B, V, r⟩ := h.below hW
    exact tbFind_none r hx
  have X0 := Blk.new w 46 #[.int .i64 0, .int .i64 0, .int .i64 0]
  have HB0 := Lib.hid ((Below.refl w.heap.size w).alloc (Nat.le_refl _) (.cells #[.int .i64 0, .int .i64 0, .int .i64 0] 46))
  have HX := Lib.hid X0
  clear X0 h hx
  go_enter Try.func22, Try.ntmps22
  go_wp2_with fail
  refine (K.out _ HB0.out).mono ?_
  rintro e w1 ⟨rfl, rfl⟩
  go_wp2_with (refine wpList_store_row rfl 46 _ _ rfl w.heap.size _ rfl rfl 46 _ HX.out (by kernel_rfl) (by simp) (by simp [Value.oneCell']) ?_)
  exact bodyPost_ret (results_ctt rfl _ _ w.heap.size 46 _ _ rfl (HX.out.setRow _) Try.underlying46 rfl (by kernel_rfl)) rfl ⟨rfl, (Spare.setRow (S := (· = w.heap.size)) rfl _).below HB0.out (fun b e => by rw [e]; exact Nat.le_refl _) HB0.out.size⟩
set_option maxRecDepth 100000 in
set_option maxHeartbeats 8000000 in
theorem tbRow_some (h : IsTab w F q l) (t : Int) {x : Tx} (hx : l.at_ t = some x) :
    Calls Try.prog 22 #[.pointer (some ⟨q, 0, none⟩), .int .i64 t] w fun e w' => e = .returned (.tuple #[.agg #[.int .i64 x.txn, .int .i64 x.first, .int .i64 x.last], .int .i64 x.left, .int .i64 0]) ∧ Below w.heap.size w w' := by
  obtain ⟨ho, m, B, V, r⟩ := h
  have K : Hid (∀ W, Below w.heap.size w W → _) := fun W hW => tbFind_some (r.below hW) hx
  have HC := Lib.hid (r.cells hx)
  have hne : w.heap.size ≠ B t := fun e => by have := HC.out.lt; omega
  have X0 := Blk.new w 46 #[.int .i64 0, .int .i64 0, .int .i64 0]
  have HB0 := Lib.hid ((Below.refl w.heap.size w).alloc (Nat.le_refl _) (.cells #[.int .i64 0, .int .i64 0, .int .i64 0] 46))
  have HX := Lib.hid X0
  have HR : Hid (∀ W, Spare (· = w.heap.size) (w.alloc (.cells #[.int .i64 0, .int .i64 0, .int .i64 0] 46)).drew W → Blk W (B t) 66 (stCells x (V t))) := fun W hW => hW.keep ((HC.out.alloc _).drew) hne.symm
  clear X0 r hx ho
  generalize B t = g at *
  obtain ⟨t0, b1, b2, d, mm⟩ := x
  go_enter Try.func22, Try.ntmps22
  go_wp2_with fail
  refine (K.out _ HB0.out).mono ?_
  rintro e w1 ⟨rfl, hw1⟩
  go_upto_region 4 with fail
  subst hw1
  generalize w.alloc (.cells #[.int .i64 0, .int .i64 0, .int .i64 0] 46) = w1 at *
  clear K HC
  refine' wp_region_late 11 8 (· = w.heap.size) (fun W => Blk W w.heap.size 46 #[.int .i64 0, .int .i64 0, .int .i64 0]) (fun W => Blk W w.heap.size 46 #[.int .i64 t0, .int .i64 b1, .int .i64 b2]) (_ :: _ :: _ :: _ :: _ :: _ :: _ :: _ :: undef :: _ :: _ :: []) (by kernel_rfl) (by kernel_rfl) (by kernel_rfl) (by kernel_rfl) (by kernel_rfl) rfl HX.out (fun W W' hb h => h.keep hb h.lt) (fun W W' hb h => h.keep hb h.lt) ?main
  case main =>
    iterate 8
      refine obsT_is (by decide) (fun w4 hE4 => ?_) ?_
      · have R4 := HR.out w4 hE4
        have y0 := R4.cell 0
        have y1 := R4.cell 1
        have y2 := R4.cell 2
        have y3 := R4.cell 3
        simp [stCells] at y0 y1 y2 y3
        clear R4
        go_wp2_with fail
        exact postT_is (Below.refl _ _)
      simp only [Act.put, List.setIfInBounds_toArray, List.set_cons_zero, List.set_cons_succ]
    refine obsT_store (fun w4 hE4 r4 => ?_) ?_
    · go_wp2_with (refine wpList_store_row rfl 46 _ _ rfl w.heap.size _ rfl rfl 46 _ r4 (by kernel_rfl) (by simp) (by simp [Value.oneCell']) ?_)
      exact postT_stored (Spare.setRow (S := (· = w.heap.size)) rfl _) (r4.setRow _)
    simp only [Act.put]
    iterate 2
      refine obsT_is (by decide) (fun w4 hE4 => ?_) ?_
      · go_wp2
        exact postT_is (Below.refl _ _)
      simp only [Act.put, List.setIfInBounds_toArray, List.set_cons_zero, List.set_cons_succ]
    refine obsT_end fun w5 hE5 r5 => ?_
    have B5 := hE5.below HB0.out.drew (fun b e => by rw [e]; exact Nat.le_refl _) HB0.out.drew.size
    change wpList _ _ _ _ _ _
    go_wp2
    exact bodyPost_ret (results_ctt rfl _ _ w.heap.size 46 _ _ rfl r5 Try.underlying46 rfl (by kernel_rfl)) rfl ⟨rfl, B5⟩
theorem tbRow_any (h : IsTab w F q l) (t : Int) :
    Calls Try.prog 22 #[.pointer (some ⟨q, 0, none⟩), .int .i64 t] w fun e w' => e = .returned (.tuple #[.agg (rwCells (l.rowT t).1), .int .i64 (l.rowT t).2.1, .int .i64 (l.rowT t).2.2]) ∧ Below w.heap.size w w' := by
  cases hx : l.at_ t with
  | none =>
    have e : l.rowT t = ((0, 0, 0), 0, 7) := by unfold Tb.rowT; rw [hx]
    rw [e]
    exact tbRow_none h t hx
  | some x =>
    have e : l.rowT t = ((x.txn, x.first, x.last), x.left, 0) := by unfold Tb.rowT; rw [hx]
    rw [e]
    exact tbRow_some h t hx
set_option maxRecDepth 100000 in
set_option maxHeartbeats 8000000 in
theorem tbEnd_any (h : IsTab w F q l) (t : Int) :
    Calls Try.prog 20 #[.pointer (some ⟨q, 0, none⟩), .int .i64 t] w (OutT w F q (l.endT t).1 (.int .i64 (l.endT t).2)) := by
  have HOK := Lib.hid (h.1.end_ t)
  have H := Lib.hid h
  obtain ⟨ho, m, B, V, r⟩ := h
  cases hx : l.at_ t with
  | none =>
    have e : l.endT t = (l, 7) := by unfold Tb.endT; rw [hx]; rfl
    rw [e]
    have K := Lib.hid (tbFind_none r hx)
    clear r ho hx e HOK
    go_enter Try.func20, Try.ntmps20
    go_wp2_with fail
    refine K.out.mono ?_
    rintro e w1 ⟨rfl, rfl⟩
    go_wp2
    go_ret
    exact OutT.same H.out _
  | some x =>
    have e : l.endT t = (l.del t, 0) := by unfold Tb.endT; rw [hx]; rfl
    rw [e] at HOK ⊢
    have K := Lib.hid (tbFind_some r hx)
    have c0 := r.cMap
    cases m with
    | none =>
      have e0 : l = [] := r.map
      rw [e0] at hx
      cases hx
    | some b =>
      obtain ⟨w2, e2, m2, o2, s2, st2⟩ := drop10 r.map.some t
      have FIN := Lib.hid (r.died m2 o2 s2)
      have ST := Lib.hid (st2 F (r.fm b rfl))
      clear r ho hx e H m2 o2 s2 st2
      generalize B t = g at *
      go_enter Try.func20, Try.ntmps20
      go_wp2_with fail
      refine K.out.mono ?_
      rintro e w1 ⟨rfl, rfl⟩
      go_wp2
      go_ret
      exact ⟨F, rfl, ⟨HOK.out, _, _, _, FIN.out⟩, ST.out⟩
end
end Go.Proofs.Ytfbghdkbimnnbaa
