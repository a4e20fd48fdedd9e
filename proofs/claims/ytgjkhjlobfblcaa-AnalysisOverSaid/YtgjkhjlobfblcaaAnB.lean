/- Analysis as plain data: behind the ends of all transactions none is under way; each page that a change named is told from its first change on; what the document fixes (awake of careenlaw13); From and Horizon. Nothing of the program is imported. -/
import Derived.Test.YtgjkhjlobfblcaaAnA
namespace Go.Proofs.Ytgjkhjlobfblcaa
namespace An

/-- Pages, each with the place of its first change. -/
def firstStep (f : PF) (x : En) : PF := if x.2.kind ≤ 2 then put f x.2.page (some (newP (f x.2.page) x.1)) else f
theorem from_p : ∀ {l : List En} {s : Ta}, (∀ x ∈ l, Own x ∧ 0 ≤ x.1) → (from_ 0 s l).p = l.foldl firstStep s.p
  | [], _, _ => rfl
  | x :: l, s, h => by
    have hx := h x List.mem_cons_self
    show (from_ 0 (step 0 s x) l).p = (l.foldl firstStep (firstStep s.p x))
    rw [from_p fun y hy => h y (List.mem_cons_of_mem _ hy)]
    congr 1
    unfold step firstStep
    rw [if_neg (show ¬ x.1 < 0 by omega)]
    by_cases h1 : x.2.kind = 1 ∨ x.2.kind = 2
    · rw [if_pos h1, if_pos (by omega)]
    · have h2 : x.2.kind = 3 ∨ x.2.kind = 4 := by rcases hx.1 with k | k | k | k <;> omega
      rw [if_neg h1, if_pos h2, if_neg (by omega)]
/-- Ends. -/
def endOf (at_ n : Int) : En := (at_, Rc.com 4 n 0)
def End4 (x : En) : Prop := x.2.kind = 4
theorem End4.own {x : En} (h : End4 x) : Own x := .inr (.inr (.inr h))
theorem from_end_p : ∀ {l : List En} {f : PF}, (∀ x ∈ l, End4 x) → l.foldl firstStep f = f
  | [], _, _ => rfl
  | x :: l, f, h => by
    have hx : x.2.kind = 4 := h x List.mem_cons_self
    rw [List.foldl_cons]
    have : firstStep f x = f := if_neg (by omega)
    rw [this]
    exact from_end_p fun y hy => h y (List.mem_cons_of_mem _ hy)
theorem step_t_off {s : Ta} {x : En} {n : Int} (ho : Own x) (h0 : 0 ≤ x.1) (hn : n ≠ x.2.txn) : (step 0 s x).t n = s.t n := by
  unfold step
  rw [if_neg (show ¬ x.1 < 0 by omega)]
  by_cases h1 : x.2.kind = 1 ∨ x.2.kind = 2
  · rw [if_pos h1]; exact put_ne _ _ hn
  · have h2 : x.2.kind = 3 ∨ x.2.kind = 4 := by rcases ho with k | k | k | k <;> omega
    rw [if_neg h1, if_pos h2]; exact put_ne _ _ hn
theorem from_t_off : ∀ {l : List En} {s : Ta} {n : Int}, (∀ x ∈ l, Own x ∧ 0 ≤ x.1) → (∀ x ∈ l, n ≠ x.2.txn) → (from_ 0 s l).t n = s.t n
  | [], _, _, _, _ => rfl
  | x :: l, s, n, h, hn => by
    show (from_ 0 (step 0 s x) l).t n = s.t n
    rw [from_t_off (fun y hy => h y (List.mem_cons_of_mem _ hy)) fun y hy => hn y (List.mem_cons_of_mem _ hy)]
    exact step_t_off (h x List.mem_cons_self).1 (h x List.mem_cons_self).2 (hn x List.mem_cons_self)
theorem from_t_end : ∀ {l : List En} {s : Ta} {n : Int}, (∀ x ∈ l, End4 x ∧ 0 ≤ x.1) → ((∃ x ∈ l, x.2.txn = n) ∨ s.t n = none) → (from_ 0 s l).t n = none
  | [], s, n, _, h => by
    rcases h with ⟨x, hx, _⟩ | h
    · cases hx
    · exact h
  | x :: l, s, n, h, hn => by
    show (from_ 0 (step 0 s x) l).t n = none
    have hx := h x List.mem_cons_self
    refine from_t_end (fun y hy => h y (List.mem_cons_of_mem _ hy)) ?_
    by_cases e : n = x.2.txn
    · right
      subst e
      unfold step
      have h4 : x.2.kind = 4 := hx.1
      rw [if_neg (show ¬ x.1 < 0 by have := hx.2; omega), if_neg (show ¬ (x.2.kind = 1 ∨ x.2.kind = 2) by omega), if_pos (.inr h4)]
      exact put_at _ _ _
    · rcases hn with ⟨y, hy, hyn⟩ | hn
      · rcases List.mem_cons.1 hy with rfl | hy
        · exact absurd hyn.symm e
        · exact .inl ⟨y, hy, hyn⟩
      · right
        rw [step_t_off hx.1.own hx.2 e, hn]
/-- AnalysisOver, plainly. -/
theorem over {E N : List En} (hE : ∀ x ∈ E, Own x ∧ 0 ≤ x.1) (hN : ∀ x ∈ N, End4 x ∧ 0 ≤ x.1) (hall : ∀ x ∈ E, ∃ y ∈ N, y.2.txn = x.2.txn) :
    (∀ n, (run 0 (E ++ N)).t n = none) ∧ (run 0 (E ++ N)).p = E.foldl firstStep fun _ => none := by
  unfold run
  rw [from_app]
  refine ⟨fun n => from_t_end hN ?_, ?_⟩
  · by_cases h : ∃ x ∈ E, x.2.txn = n
    · obtain ⟨x, hx, rfl⟩ := h
      exact .inl (hall x hx)
    · right
      rw [from_t_off hE fun x hx e => h ⟨x, hx, e.symm⟩]
      rfl
  · rw [from_p fun x hx => ⟨(hN x hx).1.own, (hN x hx).2⟩, from_end_p fun x hx => (hN x hx).1, from_p hE]
    rfl
theorem tells_nil {f : TF} (h : ∀ n, f n = none) : TellsT f [] := ⟨List.Pairwise.nil, fun n v => by rw [h]; simp⟩
theorem tells_none {f : TF} (h : ∀ n, f n = none) {l : List Row3} (k : TellsT f l) : l = [] := k.unique (tells_nil h)

/-- The least of what is there. -/
def leastP (c : Int) (l : List Row2) : Int := l.foldl (fun a x => min a x.2) c
def leastT (c : Int) (l : List Row3) : Int := l.foldl (fun a x => min a x.2.1) c
def fromN : List Row2 → Int
  | [] => 2147483647
  | x :: l => leastP x.2 l
def horizon (c : Int) (ts : List Row3) (ps : List Row2) : Int := if c = 0 then 0 else leastP (leastT c ts) ps

namespace Aw
def upd (t p : Int) : Rc := ⟨1, t, p, 0, 0, 0, 0, ⟨#[]⟩, ⟨#[]⟩, [], []⟩
def com (t : Int) : Rc := ⟨3, t, 0, 0, 0, 0, 0, ⟨#[]⟩, ⟨#[]⟩, [], []⟩
def l : List En := [(128, upd 1 2), (150, upd 2 0), (170, com 1)]
theorem rises : Ch.Rises l := by decide
theorem e0 : tablesE l 0 = 0 := by decide +kernel
theorem e150 : tablesE l 150 = 7 := by decide +kernel
def T : List Row3 := [(2, 150, 150)]
def P : List Row2 := [(0, 150), (2, 128)]
theorem run_eq : run 0 l = ⟨put (put (put (fun _ => none) 1 (some (128, 128))) 2 (some (150, 150))) 1 none, put (put (fun _ => none) 2 (some 128)) 0 (some 150)⟩ := rfl
theorem tells : TellsT (run 0 l).t T := by
  refine ⟨by decide, fun n v => ?_⟩
  rw [run_eq]
  unfold put T
  simp only [List.mem_singleton]
  by_cases h1 : n = 1
  · subst h1; simp
  · by_cases h2 : n = 2
    · subst h2; simp [eq_comm]
    · simp [h1, h2]
theorem tellsP : TellsP (run 0 l).p P := by
  refine ⟨by decide, fun n v => ?_⟩
  rw [run_eq]
  unfold put P
  simp only [List.mem_cons, List.not_mem_nil, or_false, Prod.mk.injEq]
  by_cases h1 : n = 0
  · subst h1; simp [eq_comm]
  · by_cases h2 : n = 2
    · subst h2; simp [eq_comm]
    · simp [h1, h2]
theorem from_ : fromN P = 128 := by decide
theorem hor : horizon 200 T P = 128 := by decide
end Aw
end An
end Go.Proofs.Ytgjkhjlobfblcaa
