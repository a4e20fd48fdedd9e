/- careenref10: pieces of its rows; its row laid anew; Begin. -/
import Derived.Test.YtfbghdkbimnnbaaTrF
namespace Go.Proofs.Ytfbghdkbimnnbaa
open Go.RowKit

theorem txV_take (V : Int → Value) (l : Tb) (p : Nat) (hp : p ≤ l.length) : (txV V l).take (p * 5) = txV V (l.take p) := by
  have e : txV V (l.take p ++ l.drop p) = txV V (l.take p) ++ txV V (l.drop p) := txV_append V _ _
  rw [List.take_append_drop] at e
  have hl : (txV V (l.take p)).length = p * 5 := by rw [txV_len, List.length_take, Nat.min_eq_left hp]
  rw [e, ← hl, List.take_left]
theorem txV_drop (V : Int → Value) (l : Tb) (p : Nat) (hp : p ≤ l.length) : (txV V l).drop (p * 5) = txV V (l.drop p) := by
  have e : txV V (l.take p ++ l.drop p) = txV V (l.take p) ++ txV V (l.drop p) := txV_append V _ _
  rw [List.take_append_drop] at e
  have hl : (txV V (l.take p)).length = p * 5 := by rw [txV_len, List.length_take, Nat.min_eq_left hp]
  rw [e, ← hl, List.drop_left]
theorem stCells_one (x : Tx) (v : Value) (hv : v.oneCell' = true) : ∀ u ∈ (stCells x v).toList, u.oneCell' = true := by
  intro u hu
  simp [stCells] at hu
  rcases hu with rfl | rfl | rfl | rfl | rfl <;> first | rfl | exact hv
theorem own_one {w : World} {b e size n : Nat} {v : Value} {xs : List Value} (h : w.ownsRow b e size v n xs) : v.oneCell' = true := by
  rcases own_any h with ⟨rfl, _⟩ | ⟨g, cap, rfl, _⟩ <;> rfl
theorem txV_one {w : World} {V : Int → Value} : ∀ {l : Tb}, (∀ x ∈ l, w.ownsRow 0 75 2 (V x.txn) x.marks.length (mkV x.marks)) → ∀ u ∈ txV V l, u.oneCell' = true
  | [], _, u, hu => by cases hu
  | x :: l, h, u, hu => by
    rcases List.mem_append.1 (show u ∈ (stCells x (V x.txn)).toList ++ txV V l from hu) with hu | hu
    · exact stCells_one x _ (own_one (h x (.head _))) u hu
    · exact txV_one (fun y hy => h y (.tail _ hy)) u hu
/-- 'L[p:]'. -/
theorem from_src {P : Program} {t e : TypeId} (ht : P.underlying t = some (.slice (P.elem t))) (he : P.elem t = e) (hs : ∀ w, (sizeOf e).run P w = .ok 5 w) {w : World} {v : Value} {n : Nat} {xs : List Value} (h : w.ownsRow 0 e 5 v n xs) (p : Nat) (hp : p ≤ n) :
    ∃ y, (∀ W, (Instr.slice t v (some (.int .i64 p)) none none).run P W = .ok y W) ∧ ∀ W, W.ownsRow 0 e 5 v n xs → (∀ u ∈ xs, u.oneCell' = true) → Src W 5 y (n - p) (xs.drop (p * 5)) := by
  rcases own_any h with ⟨rfl, rfl, rfl⟩ | ⟨g, cap, rfl, hc, _⟩
  · obtain rfl : p = 0 := by omega
    refine ⟨.slice none 0 0, fun W => ?_, fun W hW h1 => ⟨by simp, by simp, .inl ⟨rfl, rfl⟩⟩⟩
    have := run_slice_l (P := P) W t none 0 0 ht .i64 0 (by omega) (by omega)
    rw [he, hs] at this
    exact this
  · refine ⟨sliced (some ⟨g, 0, none⟩) p n cap 5, fun W => ?_, fun W hW h1 => ⟨?_, fun u hu => h1 u (List.mem_of_mem_drop hu), .inr ?_⟩⟩
    · have := run_slice_l (P := P) W t (some ⟨g, 0, none⟩) n cap ht .i64 p (by omega) (by omega)
      rw [he, hs, Int.toNat_natCast] at this
      exact this
    · rw [List.length_drop, hW.1, Nat.sub_mul]
    · by_cases hcp : cap = p
      · refine ⟨⟨g, 0, none⟩, cap - p, by unfold sliced; rw [if_pos hcp], fun j u hj => ?_⟩
        have := (List.getElem?_eq_some_iff.1 hj).1
        rw [List.length_drop, hW.1] at this
        have : n = p := by omega
        subst this
        omega
      · refine ⟨⟨g, p * 5, none⟩, cap - p, by
          have e0 : (⟨g, 0, none⟩ : Addr).add (p * 5) = ⟨g, p * 5, none⟩ := by unfold Addr.add; split <;> simp_all
          unfold sliced; rw [if_neg hcp, Option.map_some, e0], fun j u hj => ?_⟩
        rw [List.getElem?_drop] at hj
        have hjl := (List.getElem?_eq_some_iff.1 hj).1
        have h2 := hW.cells (g := g) rfl _ u hj
        have e1 : (⟨g, 0, none⟩ : Addr).add (p * 5 + j) = ⟨g, p * 5 + j, none⟩ := by unfold Addr.add; split <;> simp_all
        have e2 : (⟨g, p * 5, none⟩ : Addr).add j = ⟨g, p * 5 + j, none⟩ := by unfold Addr.add; split <;> simp_all
        rw [e2, ← e1]
        exact h2
/-- 'L[:p]' and 'L[:p:p]'. -/
theorem to_src {P : Program} {t e : TypeId} (ht : P.underlying t = some (.slice (P.elem t))) (he : P.elem t = e) (hs : ∀ w, (sizeOf e).run P w = .ok 5 w) {w : World} {v : Value} {n : Nat} {xs : List Value} (h : w.ownsRow 0 e 5 v n xs) (p : Nat) (hp : p ≤ n) :
    (∃ y, (∀ W, (Instr.slice t v none (some (.int .i64 p)) none).run P W = .ok y W) ∧ ∀ W, W.ownsRow 0 e 5 v n xs → (∀ u ∈ xs, u.oneCell' = true) → Src W 5 y p (xs.take (p * 5))) ∧
    ∃ y, (∀ W, (Instr.slice t v none (some (.int .i64 p)) (some (.int .i64 p))).run P W = .ok y W) ∧ ((y = .slice none 0 0 ∧ p = 0) ∨ ∃ g, y = .slice (some ⟨g, 0, none⟩) p p) ∧ ∀ W, W.ownsRow 0 e 5 v n xs → (∀ u ∈ xs, u.oneCell' = true) → Src W 5 y p (xs.take (p * 5)) := by
  rcases own_any h with ⟨rfl, rfl, rfl⟩ | ⟨g, cap, rfl, hc, _⟩
  · obtain rfl : p = 0 := by omega
    refine ⟨⟨.slice none 0 0, fun W => ?_, fun W hW h1 => ⟨by simp, by simp, .inl ⟨rfl, rfl⟩⟩⟩, .slice none 0 0, fun W => ?_, .inl ⟨rfl, rfl⟩, fun W hW h1 => ⟨by simp, by simp, .inl ⟨rfl, rfl⟩⟩⟩
    · have := run_slice_h (P := P) W t none 0 0 ht .i64 0 (by omega) (by omega)
      rw [he, hs] at this
      exact this
    · have := run_slice_hm (P := P) W t none 0 0 ht .i64 .i64 0 0 (by omega) (by omega) (by omega)
      rw [he, hs] at this
      exact this
  · have hsrc : ∀ c W, W.ownsRow 0 e 5 (.slice (some ⟨g, 0, none⟩) n cap) n xs → (∀ u ∈ xs, u.oneCell' = true) → Src W 5 (.slice (some ⟨g, 0, none⟩) p c) p (xs.take (p * 5)) := fun c W hW h1 =>
      ⟨by rw [List.length_take, hW.1]; have := Nat.mul_le_mul_right 5 hp; omega, fun u hu => h1 u (List.mem_of_mem_take hu), .inr ⟨_, c, rfl, fun j u hj => hW.cells (g := g) rfl j u (by
        rw [List.getElem?_take] at hj
        split at hj
        · exact hj
        · cases hj)⟩⟩
    refine ⟨⟨.slice (some ⟨g, 0, none⟩) p cap, fun W => ?_, hsrc cap⟩, .slice (some ⟨g, 0, none⟩) p p, fun W => ?_, .inr ⟨g, rfl⟩, hsrc p⟩
    · have := run_slice_h (P := P) W t (some ⟨g, 0, none⟩) n cap ht .i64 p (by omega) (by omega)
      rw [he, hs, Int.toNat_natCast] at this
      rw [this]
      unfold sliced
      simp [Result.andThen, Addr.add]
    · have := run_slice_hm (P := P) W t (some ⟨g, 0, none⟩) n cap ht .i64 .i64 p p (by omega) (by omega) (by omega)
      rw [he, hs, Int.toNat_natCast] at this
      rw [this]
      unfold sliced
      simp [Result.andThen, Addr.add]
/-- 'append(x, y...)' where x is full and y isn't empty: a new row. -/
theorem wpList_append_fresh {P : Program} {w : World} {ops : Array Oper} {rest : List Oper} {o : Oper} {a : Act} {Q : Exit → Act → World → Prop} (hgd : o.guard = none) (s x : Operand) (t : TypeId)
    (ho : o.op = .call { callee := .builtin .append, args := #[s, x], argTypes := #[t, t] })
    (e : TypeId) (i : TypeInfo) (z : Value) (size bytes : Nat) (ht : P.underlying t = some (.slice e)) (hi : P.info? e = some i) (hz : i.zero = some z)
    (hsize : i.size = size) (hby : i.bytes = bytes) (hzs : z.cells.size = size) (hsz : 0 < size)
    (v : Value) (n : Nat) (xs : List Value) (hs : a.eval s = v) (hv : Src w size v n xs) (hfull : (v = .slice none 0 0 ∧ n = 0) ∨ ∃ g, v = .slice (some ⟨g, 0, none⟩) n n)
    (y : Value) (m : Nat) (news : List Value) (hx : a.eval x = y) (hsrc : Src w size y m news) (hm : 0 < m)
    (h63 : n + m ≤ maxLen) (hbytes : (n + m) * bytes ≤ 140737488355328)
    (h : ∀ v' w', w'.ownsRow w.heap.size e size v' (n + m) (xs ++ news) → Below w.heap.size w w' → wpList P ops Q rest (a.put o.dst v') w') : wpList P ops Q (o :: rest) a w := by
  have key : ∃ v' w', (Builtin.append_ #[t, t] o.type #[v, y]).run P w = .ok v' w' ∧ w'.ownsRow w.heap.size e size v' (n + m) (xs ++ news) ∧ Below w.heap.size w w' := by
    rcases hsrc.form with ⟨_, h0⟩ | ⟨ad, c, rfl, hnews⟩
    · omega
    subst hsize
    subst hby
    have hsmall : n + m ≤ 9223372036854775807 := by simp only [maxLen] at h63; omega
    have hlen : (xs ++ news).length = (n + m) * i.size := by rw [List.length_append, hv.len, hsrc.len, Nat.add_mul]
    have grown : ∀ (old : Nat), old < n + m →
        (w.drew.alloc (.cells (xs.toArray ++ news.toArray ++ Builtin.zeroCells z.cells (grownCap w (n + m) old e - (n + m))) e)).ownsRow w.heap.size e i.size
          (.slice (some ⟨w.heap.size, 0, none⟩) (n + m) (grownCap w (n + m) old e)) (n + m) (xs ++ news) ∧
        Below w.heap.size w (w.drew.alloc (.cells (xs.toArray ++ news.toArray ++ Builtin.zeroCells z.cells (grownCap w (n + m) old e - (n + m))) e)) := by
      intro old ho
      have hge := grownCap_ge w (n + m) old e
      have hcm : grownCap w (n + m) old e ≤ maxLen := grownCap_le_maxLen w (n + m) old e h63
      refine ⟨⟨hlen, .inr ⟨w.heap.size, _, _, rfl, Nat.le_refl _, heap_alloc_new w.drew _, hge, hcm, ?_, ?_⟩⟩, ((Below.refl _ _).drew).alloc (Nat.le_refl _) _⟩
      · simp only [Array.size_append, List.size_toArray, size_zeroCells, hzs, hv.len, hsrc.len, ← Nat.add_mul]
        congr 1
        omega
      · simp only [Array.toList_append, List.append_assoc]
        rw [← List.append_assoc, ← hlen]
        exact List.take_left
    rcases hfull with ⟨rfl, rfl⟩ | ⟨g, rfl⟩
    · have hx0 : xs = [] := List.eq_nil_of_length_eq_zero (by simpa using hv.len)
      subst hx0
      have hr := run_append_nil (P := P) w t o.type e i z ht hi hz ad m c news hsrc.len hnews (by omega) (by omega) (by have hb := hbytes; simp only [Nat.zero_add] at hb; omega)
      have hgr := grown 0 (by omega)
      simp only [Nat.zero_add, List.nil_append, Array.empty_append] at hgr ⊢
      exact ⟨_, _, hr, hgr.1, hgr.2⟩
    · have holds : ∀ j u, xs[j]? = some u → w.cell? ((⟨g, 0, none⟩ : Addr).add j) = some u := by
        rcases hv.form with ⟨h1, _⟩ | ⟨ad', c', h1, h2⟩
        · cases h1
        · cases h1; exact h2
      have hr := run_append_grow (P := P) w t o.type e i z ht hi hz ⟨g, 0, none⟩ n n xs hv.len holds ad m c news hsrc.len hnews (by omega) (by omega) (growslice_fits (by omega) hbytes)
      have hgr := grown n (by omega)
      exact ⟨_, _, hr, hgr.1, hgr.2⟩
  obtain ⟨v', w', hr, h2, h3⟩ := key
  refine wpList_plain hgd fun K hK => ?_
  unfold Oper.wp execOp
  simp only [ho, resolve, invoke, builtin, Sem.run_bind, Sem.run_pure, Result.andThen_ok, List.map_toArray, List.map_cons, List.map_nil, hs, hx, hr]
  exact hK _ _ (h v' w' h2 h3)
/-- Where a transaction is laid in. -/
theorem ins_at (x : Tx) : ∀ l : Tb, ∃ p : Nat, p ≤ l.length ∧ (∀ (j : Nat) (y : Tx), j < p → l[j]? = some y → y.txn < x.txn) ∧ (∀ y : Tx, l[p]? = some y → ¬ y.txn < x.txn) ∧ Tb.ins x l = l.take p ++ x :: l.drop p
  | [] => ⟨0, Nat.le_refl _, fun j y h _ => by omega, fun y h => by simp at h, rfl⟩
  | z :: l => by
    unfold Tb.ins
    by_cases h : z.txn < x.txn
    · rw [if_pos h]
      obtain ⟨p, h1, h2, h3, h4⟩ := ins_at x l
      refine ⟨p + 1, by simp; exact h1, fun j y hj hy => ?_, fun y hy => h3 y (by simpa using hy), by rw [h4]; rfl⟩
      cases j with
      | zero => simp at hy; subst hy; exact h
      | succ j => exact h2 j y (by omega) (by simpa using hy)
    · rw [if_neg h]
      exact ⟨0, Nat.zero_le _, fun j y hj _ => by omega, fun y hy => by simp at hy; subst hy; exact h, rfl⟩
theorem del_at {l : Tb} (hr : l.Pairwise fun a b => a.txn < b.txn) {i : Nat} {x : Tx} (hi : l[i]? = some x) : l.del x.txn = l.take i ++ l.drop (i + 1) := by
  induction l generalizing i with
  | nil => simp at hi
  | cons y l ih =>
    obtain ⟨h1, h2⟩ := List.pairwise_cons.1 hr
    unfold Tb.del
    cases i with
    | zero =>
      simp at hi
      subst hi
      rw [List.filter_cons_of_neg (by simp), List.filter_eq_self.2 fun z hz => by have := h1 z hz; simp; omega]
      rfl
    | succ i =>
      have hi' : l[i]? = some x := by simpa using hi
      have hne : y.txn ≠ x.txn := by have := h1 x (List.mem_of_getElem? hi'); omega
      rw [List.filter_cons_of_pos (by simpa using hne)]
      have := ih h2 hi'
      unfold Tb.del at this
      rw [this]
      rfl
namespace DtRaw
variable {w w1 : World} {G : Foot} {g : Nat} {v v1 : Value} {V V' : Int → Value} {l l' : Tb}
/-- The rows were laid anew. -/
theorem rerow (r : DtRaw w G g v V l) (hb : Below w.heap.size w w1) (hown : w1.ownsRow 0 69 5 v1 l'.length (txV V' l')) (hnew : ∀ k, v1.ownBlock = some k → w.heap.size ≤ k)
    (hl : ∀ y ∈ l', (V' y.txn = .slice none 0 0 ∧ y.marks = []) ∨ ∃ y0 ∈ l, y0.txn = y.txn ∧ y0.marks = y.marks ∧ V' y.txn = V y.txn) :
    DtRaw (w1.setCell ⟨g, 0, none⟩ v1) (fun k => G k ∨ v1.ownBlock = some k) g v1 V' l' ∧ Step G (fun k => G k ∨ v1.ownBlock = some k) w (w1.setCell ⟨g, 0, none⟩ v1) := by
  have r1 := r.below hb
  have hgl := r.head.lt
  have hgv : ∀ k, v1.ownBlock = some k → k ≠ g := fun k hk e => by have := hnew k hk; omega
  have hgm : ∀ y ∈ l, ∀ k, (V y.txn).ownBlock = some k → k ≠ g := fun y hy k hk e => own_blk (r1.mks y hy) r1.head (by decide) (e ▸ hk)
  have hsz : (w1.setCell ⟨g, 0, none⟩ v1).heap.size = w1.heap.size := by simp [World.setCell]
  refine ⟨⟨r1.head.set 0 v1, own_keep hown fun k hk => heap_setCell_other w1 _ k _ (hgv k hk), fun y hy => ?_, fun y hy z hz k h1 h2 => ?_, .inl r.fg, fun k hk => .inr hk, fun y hy k hk => ?_, fun k hk => ?_⟩, ?_⟩
  · rcases hl y hy with ⟨h1, h2⟩ | ⟨y0, hy0, h1, h2, h3⟩
    · rw [h1, h2]
      exact World.ownsRow_nil _ _ _ _
    · rw [h3, ← h1, ← h2]
      exact own_keep (r1.mks y0 hy0) fun k hk => heap_setCell_other w1 _ k _ (hgm y0 hy0 k hk)
  · rcases hl y hy with ⟨e1, _⟩ | ⟨y0, hy0, e1, _, e3⟩
    · rw [e1] at h1; simp [Value.ownBlock] at h1
    · rcases hl z hz with ⟨d1, _⟩ | ⟨z0, hz0, d1, _, d3⟩
      · rw [d1] at h2; simp [Value.ownBlock] at h2
      · rw [e3, ← e1] at h1
        rw [d3, ← d1] at h2
        rw [← e1, ← d1]
        exact r.apartV y0 hy0 z0 hz0 k h1 h2
  · rcases hl y hy with ⟨e1, _⟩ | ⟨y0, hy0, e1, _, e3⟩
    · rw [e1] at hk; simp [Value.ownBlock] at hk
    · rw [e3, ← e1] at hk
      exact .inl (r.fv y0 hy0 k hk)
  · rw [hsz]
    rcases hk with hk | hk
    · exact r1.lt k hk
    · exact (hown.lt k hk).2
  · have h1 := (Step.ofBelow (F := G) hb).set (p := ⟨g, 0, none⟩) r.fg v1
    exact ⟨h1.os, h1.tape, h1.output, h1.size, h1.block, fun k hk => hk.elim .inl fun e => .inr (hnew k e)⟩
end DtRaw
end Go.Proofs.Ytfbghdkbimnnbaa
