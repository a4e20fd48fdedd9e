/- Package chain: Undo. -/
import Derived.Test.YtecalnglidjmgaaChI
namespace Go.Proofs.Ytecalnglidjmgaa
open Go.RowKit Go.Shelf

/-- What undoes an update. -/
def undR (r : Rc) : Rc := Rc.und r.txn 0 r.prev r.page r.off r.before
def recL (r : Rc) : List Value := (recCells r (.slice none 0 0) (.slice none 0 0)).toList
/-- Records without rows, behind one another. -/
def recsN (l : List Rc) : List Value := l.flatMap recL
theorem recL_len (r : Rc) : (recL r).length = 11 := rfl
theorem recsN_snoc (l : List Rc) (r : Rc) : recsN (l ++ [r]) = recsN l ++ recL r := by simp [recsN]
/-- What Undo tells, of what comes in turn. -/
theorem undo_seq (l : List En) (t p s : Int) : ∃ A, outOf (fol l t true (stopW fun q => decide (s < q)) p) = okA A ++ errT (Ch.undo l t p s).2 ∧ ((Ch.undo l t p s).2 = 0 → A.map undR = (Ch.undo l t p s).1) ∧ ((Ch.undo l t p s).2 ≠ 0 → (Ch.undo l t p s).1 = []) ∧ A.length ≤ l.length ∧ ∀ r ∈ A, ∃ x ∈ l, x.2 = r := by
  rw [stopS, outOf_fol]
  by_cases hr : Ch.Rises l
  · rw [if_pos hr]
    have hlen : ((Ch.upd (Ch.follow l t true (Ch.stS s) p).1).map Prod.snd).length ≤ l.length := by
      rw [List.length_map]
      exact Nat.le_trans (List.length_filter_le _ _) (Nat.le_trans (Ch.follow_len l t true _ p) (Ch.rank_le l p))
    have hmem : ∀ r ∈ (Ch.upd (Ch.follow l t true (Ch.stS s) p).1).map Prod.snd, ∃ x ∈ l, x.2 = r := fun r hr' => by
      obtain ⟨x, hx, rfl⟩ := List.mem_map.1 hr'
      exact ⟨x, (Ch.follow_mem l t true _ p x (List.mem_filter.1 hx).1).1, rfl⟩
    by_cases h0 : (Ch.follow l t true (Ch.stS s) p).2 = 0
    · rw [Ch.undo_mk hr h0, h0]
      refine ⟨_, rfl, fun _ => ?_, fun h => absurd rfl h, hlen, hmem⟩
      rw [List.map_map]
      refine List.map_congr_left fun x hx => ?_
      have hb := (Ch.follow_mem l t true _ p x (List.mem_filter.1 hx).1).2.2
      unfold Ch.Bad at hb
      show Rc.und x.2.txn _ _ _ _ _ = Rc.und t _ _ _ _ _
      rw [show x.2.txn = t by omega]
    · have e : Ch.undo l t p s = ([], (Ch.follow l t true (Ch.stS s) p).2) := by unfold Ch.undo; simp [hr, h0]
      rw [e]
      exact ⟨_, rfl, fun h => absurd h h0, fun _ => rfl, hlen, hmem⟩
  · rw [if_neg hr]
    have e : Ch.undo l t p s = ([], 3) := by unfold Ch.undo; simp [hr]
    rw [e]
    exact ⟨[], rfl, fun h => by simp at h, fun _ => rfl, Nat.zero_le _, nofun⟩

theorem wantsAbove (m n b0 : Nat) (e : TypeId) (b : Nat) (s : Int) (hb : b ≠ b0) (hn : b < n) : Wants m n b0 e 27 #[.pointer (some ⟨b, 0, none⟩)] (fun q => decide (s < q)) (fun W => Blk W b 3 #[.int .i64 s]) :=
  ⟨fun _ _ h k => k.rest _ _ _ h hb (.inl hn), fun _ _ h k => h.keep k h.lt, fun W q h => chAbove q s b W (by have := h.cell 0; simpa using this), fun args W => enters_of Try.func27 (by kernel_rfl) rfl args W⟩

/-- Behind 'x = append(x, ..)': the box, the row, what a round keeps. -/
theorem appendedK {W w1 : World} {m n b0 : Nat} {t e : TypeId} {size k k' : Nat} {v v' : Value} {xs ys : List Value} {tmp : Obj} (hv : Blk W b0 t #[v]) (hrow : W.ownsRow n e size v k xs) (hm : m ≤ b0) (hb : b0 < n) (hn : n ≤ W.heap.size)
    (hown : w1.ownsRow n e size v' k' ys) (hg : (W.alloc tmp).grownBy w1 v.ownBlock) :
    Blk w1 b0 t #[v] ∧ Blk (w1.setCell ⟨b0, 0, none⟩ v') b0 t #[v'] ∧ (w1.setCell ⟨b0, 0, none⟩ v').ownsRow n e size v' k' ys ∧ KeepsOthers W (w1.setCell ⟨b0, 0, none⟩ v') ∧ Kp m n b0 e W (w1.setCell ⟨b0, 0, none⟩ v') := by
  have hge : ∀ j, v.ownBlock = some j → n ≤ j := fun j hj => (hrow.lt j hj).1
  have hty : ∀ j cs t', v.ownBlock = some j → Blk W j t' cs → t' = e := fun j cs t' hj hc => by
    rcases hrow.2 with ⟨rfl, _⟩ | ⟨g, cap, cur, rfl, _, hgb, _⟩
    · simp [Value.ownBlock] at hj
    · obtain rfl : g = j := by simpa [Value.ownBlock] using hj
      rw [show W.heap[g]? = _ from hc] at hgb
      cases hgb
      rfl
  have hold : ∀ b cs t', Blk W b t' cs → (b < n ∨ t' ≠ e) → Blk w1 b t' cs := fun b cs t' h hs =>
    (hg.block b (by simp; have := h.lt; omega) fun ej => by
      have h1 := hge b ej.symm
      have h2 := hty b cs t' ej.symm h
      rcases hs with hs | hs
      · omega
      · exact hs h2).trans (h.alloc tmp)
  have hv1 := hold b0 _ _ hv (.inl hb)
  refine ⟨hv1, hv1.set 0 v', ?_, ?_, ⟨?_, fun b cs t' h hne hs => (hold b cs t' h hs).far (p := ⟨b0, 0, none⟩) hne v'⟩⟩
  · exact hown.kept (grownBy_setCell' w1 b0 v') (.inr fun ej => by have := (hown.lt b0 ej).1; omega)
  · refine ((KeepsOthers.alloc W tmp).trans (KeepsOthers.of_grownBy hg fun j o ej hj => ?_)).trans (KeepsOthers.setCell _ _ _)
    rcases hrow.2 with ⟨rfl, _⟩ | ⟨g, cap, cur, rfl, _, hgb, _⟩
    · simp [Value.ownBlock] at ej
    · obtain rfl : g = j := by simpa [Value.ownBlock] using ej
      have h1 : (W.alloc tmp).heap[g]? = some (.cells cur e (0, 0)) := (Blk.alloc (w := W) hgb tmp)
      rw [h1] at hj; cases hj; rfl
  · exact (((Below.refl m W).alloc (by omega) tmp).grown hg (by simp; omega) fun j ej => by have := hge j ej; omega).setCell (p := ⟨b0, 0, none⟩) hm v'

/-- Undo's own cells between two rounds. -/
structure SeesU (w : World) (n : Nat) (pre : List Sm) (X : World) : Prop where
  ok : ∀ x ∈ pre, x.2 = 0
  below : Below w.heap.size w X
  z : n ≤ X.heap.size
  r0 : Blk X (w.heap.size + 1) 33 #[.slice none 0 0]
  r1 : Blk X (w.heap.size + 1 + 1) 26 #[.int .i64 0]
  b : ∃ u, Blk X (w.heap.size + 1 + 1 + 1) 33 #[u] ∧ X.ownsRow n 45 11 u pre.length (recsN (pre.map fun x => undR x.1))
theorem ownRow_turn {B n : Nat} {e : TypeId} {size k : Nat} {u : Value} {xs : List Value} {A C : World} {row : Option Nat} (h : A.ownsRow n e size u k xs) (hg : A.grownBy C row) (hr : ∀ r, row = some r → B ≤ r ∧ ∃ o : Obj, A.heap[r]? = some o ∧ o.isCells = false) : C.ownsRow n e size u k xs := by
  refine h.kept hg ?_
  rcases h.2 with ⟨rfl, _⟩ | ⟨g, cap, cur, rfl, _, hgb, _⟩
  · exact .inl rfl
  · refine .inr fun e' => ?_
    obtain ⟨_, o, ho, hc⟩ := hr g (by simpa [Value.ownBlock] using e'.symm)
    rw [hgb] at ho; cases ho; cases hc
theorem own_seesU {w : World} {n B : Nat} (hB : w.heap.size ≤ B) : OwnFrom B (SeesU w n) := fun _ A C row hs hg hr =>
  ⟨hs.ok, ownFrom_below (β := Unit) (Nat.le_refl _) hB () A C row hs.below hg hr, Nat.le_trans hs.z hg.size, ownFrom_cells _ _ _ _ _ () A C row hs.r0 hg hr, ownFrom_cells _ _ _ _ _ () A C row hs.r1 hg hr,
    let ⟨u, h1, h2⟩ := hs.b; ⟨u, ownFrom_cells _ _ _ _ _ () A C row h1 hg hr, ownRow_turn h2 hg hr⟩⟩
end Go.Proofs.Ytecalnglidjmgaa
