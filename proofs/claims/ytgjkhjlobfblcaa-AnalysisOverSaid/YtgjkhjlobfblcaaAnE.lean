/- Analysis as plain data: ends of transactions, one by one behind a list. Nothing of the program is imported. -/
import Derived.Test.YtgjkhjlobfblcaaAnC
namespace Go.Proofs.Ytgjkhjlobfblcaa
namespace An

def ends (a : Int) : List Int → List En
  | [] => []
  | n :: ns => endOf (a + 1) n :: ends (a + 1) ns
theorem ends_snoc : ∀ (ns : List Int) (a n : Int), ends a (ns ++ [n]) = ends a ns ++ [endOf (a + ns.length + 1) n]
  | [], a, n => by simp [ends]
  | m :: ns, a, n => by
    show endOf (a + 1) m :: ends (a + 1) (ns ++ [n]) = endOf (a + 1) m :: (ends (a + 1) ns ++ _)
    rw [ends_snoc ns (a + 1) n, List.length_cons]
    congr 4
    omega
theorem ends_len : ∀ (ns : List Int) (a : Int), (ends a ns).length = ns.length
  | [], _ => rfl
  | m :: ns, a => by
    show (ends (a + 1) ns).length + 1 = _
    rw [ends_len ns, List.length_cons]
theorem ends_mem : ∀ {ns : List Int} {a : Int} {x : En}, x ∈ ends a ns → End4 x ∧ a < x.1 ∧ x.2.txn ∈ ns ∧ x.2.txns = [] ∧ x.2.pages = []
  | [], _, _, h => by cases h
  | m :: ns, a, x, h => by
    rcases List.mem_cons.1 h with rfl | h
    · exact ⟨rfl, by show a < a + 1; omega, List.mem_cons_self, rfl, rfl⟩
    · obtain ⟨h1, h2, h3, h4⟩ := ends_mem h
      exact ⟨h1, by omega, List.mem_cons_of_mem _ h3, h4⟩
theorem ends_has : ∀ {ns : List Int} {a n : Int}, n ∈ ns → ∃ x ∈ ends a ns, x.2.txn = n
  | m :: ns, a, n, h => by
    rcases List.mem_cons.1 h with rfl | h
    · exact ⟨_, List.mem_cons_self, rfl⟩
    · obtain ⟨x, hx, e⟩ := ends_has (a := a + 1) h
      exact ⟨x, List.mem_cons_of_mem _ hx, e⟩
theorem ends_rises : ∀ (ns : List Int) (a : Int), Ch.Rises (ends a ns)
  | [], _ => List.Pairwise.nil
  | m :: ns, a => List.pairwise_cons.2 ⟨fun x hx => by have := (ends_mem hx).2.1; exact this, ends_rises ns (a + 1)⟩
theorem over_rises {E : List En} {a : Int} (hE : Ch.Rises E) (ha : ∀ x ∈ E, x.1 ≤ a) (ns : List Int) : Ch.Rises (E ++ ends a ns) :=
  List.pairwise_append.2 ⟨hE, ends_rises ns a, fun x hx y hy => by have := ha x hx; have := (ends_mem hy).2.1; omega⟩
/-- AnalysisOver, plainly: what is told behind the ends of all. -/
theorem over_all {E : List En} {a : Int} (hE : Ch.Rises E) (ha : ∀ x ∈ E, x.1 ≤ a) (h0 : 0 ≤ a) (ho : ∀ x ∈ E, Own x ∧ 0 ≤ x.1) {ns : List Int} (hn : ∀ x ∈ E, x.2.txn ∈ ns) :
    tablesE (E ++ ends a ns) 0 = 0 ∧ (∀ n, (run 0 (E ++ ends a ns)).t n = none) ∧ (run 0 (E ++ ends a ns)).p = E.foldl firstStep fun _ => none := by
  refine ⟨?_, over ho (fun x hx => ?_) fun x hx => ends_has (hn x hx)⟩
  · unfold tablesE
    rw [if_pos (over_rises hE ha ns), if_pos (.inl rfl)]
  · have := ends_mem hx
    exact ⟨this.1, by omega⟩
/-- A record more. -/
theorem first_snoc (E : List En) (x : En) : (E ++ [x]).foldl firstStep (fun _ => none) = firstStep (E.foldl firstStep fun _ => none) x := by rw [List.foldl_append]; rfl
theorem firstStep_new {f : PF} {x : En} (hk : x.2.kind ≤ 2) (h : f x.2.page = none) : firstStep f x = put f x.2.page (some x.1) := by unfold firstStep; rw [if_pos hk, h]; rfl
theorem firstStep_old {f : PF} {x : En} {v : Int} (h : f x.2.page = some v) : firstStep f x = f := by
  unfold firstStep
  split
  · rw [h]
    funext c
    unfold put
    by_cases hc : c = x.2.page
    · subst hc; rw [if_pos rfl, h]; rfl
    · rw [if_neg hc]
  · rfl
theorem firstStep_not {f : PF} {x : En} (hk : ¬ x.2.kind ≤ 2) : firstStep f x = f := if_neg hk
end An
end Go.Proofs.Ytgjkhjlobfblcaa
