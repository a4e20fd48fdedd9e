/- Iterators that range over iterators: an iterator that gives a list, one by one, until a round says 'no more'; whoever ranges over it. What it is told may lean on any turn of blocks without cells (so the law serves an iterator that ranges over another one itself). Nothing of the program is imported. -/
import Derived.RangeFuncNested
import Derived.RangeFuncLeaves
import Derived.Test.YtgjkhjlobfblcaaBase
namespace Go.Proofs.Ytgjkhjlobfblcaa
open Go.RowKit

section
variable {F : Fence} {n : Nat} {P : Program} {α : Type}

/-- Called with a yield, it gives xs: J where the rounds go on, Jx where one has said 'no more'. -/
def Gives (F : Fence) (n : Nat) (P : Program) (g : Nat) (lb : Array Value) (Enc : α → Array Value → Prop) (Kp : World → World → Prop) (xs : List α) (w0 : World) : Prop :=
  ∀ (l : Nat) (J Jx : List α → World → Prop) (W : World), l < W.heap.size → Below w0.heap.size w0 W → OwnFrom W.heap.size J → OwnFrom W.heap.size Jx → J [] W →
    (∀ pre x ys W1, (pre ++ [x]) <+: xs → Enc x ys → J pre W1 → YieldAt F (n - 1) P l ys W1 fun e W' =>
      (e = .returned (.bool true) ∧ J (pre ++ [x]) W' ∧ Kp W1 W' ∧ KeepsOthers W1 W') ∨ (e = .returned (.bool false) ∧ Jx (pre ++ [x]) W' ∧ KeepsFrom (l + 1) W1 W')) →
    CallsIn F n P g (#[.func (.yield l) #[] #[]] ++ lb) W fun e W' => (∃ v, e = .returned v) ∧ (J xs W' ∨ ∃ pre, pre <+: xs ∧ Jx pre W')
/-- Where no depth is asked, all depths are one. -/
theorem yieldAny (hd : F.depth = none) {m : Nat} (m' : Nat) {l : Nat} {ys : Array Value} {W : World} {R : Ending → World → Prop} (h : YieldAt F m P l ys W R) : YieldAt F m' P l ys W R := by
  obtain ⟨fn, tmps, assign, body, hy, hR⟩ := h
  exact ⟨fn, tmps, assign, body, hy, hR.1, fun c cs _ => hR.2 c cs fun d h => by rw [hd] at h; cases h⟩
theorem yieldMono {m : Nat} {l : Nat} {ys : Array Value} {W : World} {R R' : Ending → World → Prop} (h : YieldAt F m P l ys W R) (hr : ∀ e w', R e w' → R' e w') : YieldAt F m P l ys W R' := by
  obtain ⟨fn, tmps, assign, body, hy, hR⟩ := h
  exact ⟨fn, tmps, assign, body, hy, hR.mono hr⟩
/-- What only adds to memory is abode. -/
theorem ownMore {β : Type} {B : Nat} {I : β → World → Prop} (h : OwnFrom B I) {s : β} {w w' : World} (hs : I s w) (hb : Below w.heap.size w w') : I s w' :=
  h s w w' none hs ⟨hb.os, hb.tape, hb.output, hb.size, fun k hk _ => hb.block k hk⟩ fun r e => by cases e
theorem ownMono {β : Type} {B B' : Nat} {I : β → World → Prop} (h : OwnFrom B I) (hB : B ≤ B') : OwnFrom B' I :=
  fun s W W' row hs hg hr => h s W W' row hs hg fun r e => ⟨Nat.le_trans hB (hr r e).1, (hr r e).2⟩
/-- A block below B, whatever it is, lies as it lay. -/
theorem ownFrom_block {β : Type} {B k : Nat} (o : Obj) (hk : k < B) : OwnFrom B (fun (_ : β) (W : World) => W.heap[k]? = some o) := fun _ W W' row hs hg hr =>
  (hg.block k (Array.getElem?_eq_some_iff.1 hs).1 fun e => by have := (hr k e.symm).1; omega).trans hs
/-- Cells, wherever they lie. -/
theorem ownFrom_cells {β : Type} (B k : Nat) (cs : Array Value) (t : TypeId) (u : Nat × Nat) : OwnFrom B (fun (_ : β) (W : World) => W.heap[k]? = some (.cells cs t u)) := fun _ W W' row hs hg hr =>
  (hg.block k (Array.getElem?_eq_some_iff.1 hs).1 fun e => by
    obtain ⟨_, o, ho, hc⟩ := hr k e.symm
    rw [hs] at ho; cases ho; cases hc).trans hs
theorem keepsFrom_mono {B B' : Nat} {W W' : World} (h : KeepsFrom B W W') (hB : B ≤ B') : KeepsFrom B' W W' := ⟨h.size, fun k o hk => h.same k o (Nat.le_trans hB hk)⟩
/-- How a round is left: it goes on, or it returns. -/
def givesPost (B : Nat) (Kp : World → World → Prop) (I Ix : List α → World → Prop) (xs : List α) (W : World) : Exit → Act → World → Prop
  | .normal, _, W' => KeepsOthers W W' ∧ Kp W W' ∧ I xs W'
  | .ret, _, W' => KeepsFrom B W W' ∧ Ix xs W'
  | _, _, _ => False

theorem wpIn_gives {g : Operand} {ps : Array Tmp} {assign body : Code} {Q : Exit → Act → World → Prop} {a : Act} {w : World}
    (hro : F.round = none) (h1 : F.depth.isSome = true → 1 ≤ n) {gf : Nat} {lb : Array Value} (hg : a.eval g = .func (.func gf) #[] lb) (hFg : F.fn gf) (eg : ∀ args w, (callFunc gf args).run P w = .ok (.enter gf args) w)
    {Enc : α → Array Value → Prop} {Kp : World → World → Prop} {xs : List α} {w0 : World} (hseq : Gives F (n - 1) P gf lb Enc Kp xs w0)
    (hKt : ∀ {A B C : World}, Kp A B → Kp B C → Kp A C) (hKb : ∀ (W : World) (l : Nat) (o o' : Obj), w.heap.size ≤ l → W.heap[l]? = some o → o.isCells = false → Kp W (W.putObj l o')) (hb0 : Below w0.heap.size w0 w) (hps : ∀ x ys, Enc x ys → ys.size = ps.size)
    (I Ix : List α → World → Prop) (Mid : α → Act → List α → World → Prop) (hI : OwnFrom w.heap.size I) (hIx : OwnFrom w.heap.size Ix) (hMid : ∀ x a', OwnFrom w.heap.size (Mid x a')) (h0 : I [] w)
    (hassign : ∀ (l : Nat) (pre : List α) (x : α) (ys : Array Value) (W : World), (pre ++ [x]) <+: xs → Enc x ys → I pre W →
      assign.wpIn (F.inRound l) (n - 1 - 1) P (Exit.then (fun a' W' => KeepsOthers W W' ∧ Kp W W' ∧ Mid x a' pre W') (fun _ _ _ => False)) { tmps := (ps.zip ys).foldl (fun t (p, v) => t.setIfInBounds p v) a.tmps, defers := [] } W)
    (hbody : ∀ (l : Nat) (pre : List α) (x : α) (a' : Act) (W : World), (pre ++ [x]) <+: xs → Mid x a' pre W → body.wpIn (F.inRound l) (n - 1 - 1) P (givesPost w.heap.size Kp I Ix (pre ++ [x]) W) a' W)
    (hdone : ∀ (D : Nat) (W : World), w.heap.size ≤ D → I xs W → W.heap[D]? = some (.deferred (some [])) → Q .normal { a with defers := { target := .collected D, args := #[] } :: a.defers } W)
    (hstop : ∀ (D : Nat) (pre : List α) (W : World), w.heap.size ≤ D → pre <+: xs → Ix pre W → W.heap[D]? = some (.deferred (some [])) → Code.ret.wpIn F n P Q { a with defers := { target := .collected D, args := #[] } :: a.defers } W) :
    (Code.rangeFunc g ps assign body).wpIn F n P Q a w := by
  refine wpIn_rangeFunc fun fn hfn => ?_
  rw [hro]
  obtain ⟨rec, hrec⟩ : ∃ rec : LoopState → Option Code → Loop, ∀ s p, rec s p = { state := s, pending := p, fn, tmps := a.tmps, params := ps, assign, body, defers := w.heap.size } := ⟨_, fun _ _ => rfl⟩
  obtain ⟨W1, hW1⟩ : ∃ W1, W1 = (w.alloc (.deferred (some []))).alloc (.loop (rec .ready none)) := ⟨_, rfl⟩
  have b1 : Below w.heap.size w W1 := by rw [hW1]; exact ((Below.refl _ w).alloc (Nat.le_refl _) _).alloc (by simp) _
  have z1 : W1.heap.size = w.heap.size + 2 := by rw [hW1]; simp
  have l1 : W1.heap[w.heap.size + 1]? = some (.loop (rec .ready none)) := by
    rw [hW1]; have := World.alloc_heap_new (w.alloc (.deferred (some []))) (.loop (rec .ready none)); rwa [World.size_alloc] at this
  have d1 : W1.heap[w.heap.size]? = some (.deferred (some [])) := by rw [hW1]; exact (Below.heap_alloc _ _ _ (by simp)).trans (World.alloc_heap_new w _)
  refine ⟨w.heap.size + 1, [{ target := .collected w.heap.size, args := #[] }], W1, { target := .fn (.func gf) lb, args := #[.func (.yield (w.heap.size + 1)) #[] #[]] }, W1, gf, #[.func (.yield (w.heap.size + 1)) #[] #[]] ++ lb, W1, ?_, ?_, ?_, ?_, h1, ?_⟩
  · rw [hW1, hrec]; exact run_enterLoop_outer _ _ _ _ _
  · simp only [resolve, hg]; simp [go_sem]
  · intro f' hf'; simp [Target.leads] at hf'; subst hf'; exact hFg
  · simp [invoke, go_sem, eg]
  have hor : ∀ {β : Type} {K : β → World → Prop}, OwnFrom w.heap.size K → ∀ st, OwnFrom W1.heap.size (fun (s : β) W => K s W ∧ W.heap[w.heap.size + 1]? = some (.loop st) ∧ W.heap[w.heap.size]? = some (.deferred (some []))) := fun hK st =>
    (ownMono hK (by omega)).and ((ownFrom_block _ (by omega)).and (ownFrom_block _ (by omega)))
  refine (hseq (w.heap.size + 1) (fun pre W => I pre W ∧ W.heap[w.heap.size + 1]? = some (.loop (rec .ready none)) ∧ W.heap[w.heap.size]? = some (.deferred (some [])))
    (fun pre W => Ix pre W ∧ W.heap[w.heap.size + 1]? = some (.loop (rec .done (some .ret))) ∧ W.heap[w.heap.size]? = some (.deferred (some [])))
    W1 (by omega) (hb0.trans (b1.mono hb0.size)) (hor hI _) (hor hIx _) ⟨ownMore hI h0 b1, l1, d1⟩ ?_).mono ?_
  · rintro pre x ys W hx hEnc ⟨hi, hl, hd⟩
    have hy := run_yield (P := P) (args := ys) hl (by rw [hrec]; exact hps x ys hEnc)
    rw [hrec] at hy
    refine ⟨fn, _, assign, body, hy, roundIn_of_wpIn hfn (wpIn_mono (hassign (w.heap.size + 1) pre x ys W hx hEnc hi) ?_)⟩
    rintro e a' Wa hp
    cases e with
    | normal =>
      obtain ⟨ka, pa, ma⟩ := hp
      have la := ka.same _ _ hl rfl
      have da := ka.same _ _ hd rfl
      refine ⟨_, run_beginRound la (by rw [hrec]), ?_⟩
      rw [show ({ rec LoopState.ready none with state := LoopState.busy } : Loop) = rec .busy none by rw [hrec, hrec]]
      generalize hWb : Wa.putObj (w.heap.size + 1) (.loop (rec .busy none)) = Wb
      have lb' : Wb.heap[w.heap.size + 1]? = some (.loop (rec .busy none)) := by rw [← hWb]; exact World.putObj_heap_same (Array.getElem?_eq_some_iff.1 la).1
      have db : Wb.heap[w.heap.size]? = some (.deferred (some [])) := by rw [← hWb]; exact (World.putObj_heap_other (by omega)).trans da
      have pb : Kp W Wb := by rw [← hWb]; exact hKt pa (hKb _ _ _ _ (by omega) la rfl)
      have mb : Mid x a' pre Wb := by rw [← hWb]; exact (hMid x a').putObj _ ma (by omega) la rfl
      refine wpIn_mono (hbody (w.heap.size + 1) pre x a' Wb hx mb) ?_
      rintro e a3 Wc hq
      have last : KeepsFrom w.heap.size Wb Wc → ∀ (j : Option Code), ∃ Wd, (Instr.endRound (w.heap.size + 1) j).run P Wc = .ok (.bool j.isNone) Wd ∧ Wd = Wc.putObj (w.heap.size + 1) (.loop (rec (if j.isNone then .ready else .done) j)) ∧
          Wc.heap[w.heap.size + 1]? = some (.loop (rec .busy none)) ∧ Wd.heap[w.heap.size + 1]? = some (.loop (rec (if j.isNone then .ready else .done) j)) ∧ Wd.heap[w.heap.size]? = some (.deferred (some [])) := fun kc j => by
        have lc := kc.same _ _ (by omega) lb' rfl
        refine ⟨_, ?_, rfl, lc, World.putObj_heap_same (Array.getElem?_eq_some_iff.1 lc).1, (World.putObj_heap_other (by omega)).trans (kc.same _ _ (Nat.le_refl _) db rfl)⟩
        have := run_endRound (P := P) j lc
        rw [hrec] at this ⊢
        exact this
      cases e with
      | normal =>
        obtain ⟨kc, pc, ic⟩ := hq
        obtain ⟨Wd, hr, hWd, lc, ld, dd⟩ := last (kc.from _) none
        refine ⟨_, Wd, hr, .inl ⟨rfl, ⟨?_, ld, dd⟩, ?_, ?_⟩⟩
        · rw [hWd]; exact hI.putObj _ ic (by omega) lc rfl
        · rw [hWd]; exact hKt pb (hKt pc (hKb _ _ _ _ (by omega) lc rfl))
        · refine ⟨by rw [hWd, World.putObj_size]; exact Nat.le_trans (Nat.le_trans ka.size (by rw [← hWb, World.putObj_size]; exact Nat.le_refl _)) kc.size, fun k o hk ho => ?_⟩
          by_cases e : k = w.heap.size + 1
          · subst e
            rw [hl] at hk
            cases hk
            exact ld
          · rw [hWd, World.putObj_heap_other e]
            exact kc.same k o (by rw [← hWb, World.putObj_heap_other e]; exact ka.same k o hk ho) ho
      | ret =>
        obtain ⟨kc, ic⟩ := hq
        obtain ⟨Wd, hr, hWd, lc, ld, dd⟩ := last kc (some .ret)
        refine ⟨_, Wd, hr, .inr ⟨rfl, ⟨?_, ld, dd⟩, ?_⟩⟩
        · rw [hWd]; exact hIx.putObj _ ic (by omega) lc rfl
        · refine ⟨by rw [hWd, World.putObj_size]; exact Nat.le_trans (Nat.le_trans ka.size (by rw [← hWb, World.putObj_size]; exact Nat.le_refl _)) kc.size, fun k o hB hk ho => ?_⟩
          rw [hWd, World.putObj_heap_other (by omega)]
          exact kc.same k o (by omega) (by rw [← hWb, World.putObj_heap_other (by omega)]; exact ka.same k o hk ho) ho
      | exit _ => exact hq.elim
      | goto _ => exact hq.elim
      | panic _ => exact hq.elim
      | outgrown => exact hq.elim
    | ret => exact hp.elim
    | exit _ => exact hp.elim
    | goto _ => exact hp.elim
    | panic _ => exact hp.elim
    | outgrown => exact hp.elim
  · rintro e W2 ⟨⟨v, rfl⟩, ⟨hi, hl, hd⟩ | ⟨pre, hpre, hi, hl, hd⟩⟩
    · have := run_endLoop (P := P) hl (by rw [hrec]; simp)
      rw [hrec] at this
      exact ⟨none, _, this, hdone _ _ (Nat.le_refl _) (hI.putObj _ hi (by omega) hl rfl) ((World.putObj_heap_other (by omega)).trans hd)⟩
    · have := run_endLoop (P := P) hl (by rw [hrec]; simp)
      rw [hrec] at this
      exact ⟨some .ret, _, this, hstop _ pre _ (Nat.le_refl _) hpre (hIx.putObj _ hi (by omega) hl rfl) ((World.putObj_heap_other (by omega)).trans hd)⟩
end
theorem noDepth1 (k : Nat) : Fence.wide.depth.isSome = true → 1 ≤ k := fun h => by cases h
end Go.Proofs.Ytgjkhjlobfblcaa
