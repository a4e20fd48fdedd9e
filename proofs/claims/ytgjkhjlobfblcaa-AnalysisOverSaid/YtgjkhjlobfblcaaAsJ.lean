/- AnalysisOver: its two maps of whole numbers, and what they hold. -/
import Derived.Test.YtgjkhjlobfblcaaAsG
import Derived.Test.YtgjkhjlobfblcaaChM0
import Derived.Test.YtgjkhjlobfblcaaOpenEnts
namespace Go.Proofs.Ytgjkhjlobfblcaa
open Go.RowKit Go.MapKept
set_option linter.unusedSimpArgs false

def mI (f : Int → Option Int) : Int → Option Value := fun n => (f n).map (Value.int .i64)
theorem zI (w : World) : (zeroValue 3).run Try.prog w = .ok (.int .i64 0) w := by kernel_rfl
theorem lookI {w : World} {b : Nat} {f : Int → Option Int} (h : BMap w b (mI f)) (i : Int) : (Instr.lookup 39 (.map (some b)) (.int .i64 i) true).run Try.prog w = .ok (.tuple #[.int .i64 ((f i).getD 0), .bool (f i).isSome]) w := by
  rw [h.isMap.look Try.underlying39 Try.underlying3 i (zI w)]
  unfold mI
  cases f i <;> rfl
theorem lookI0 {w : World} {b : Nat} {f : Int → Option Int} (h : BMap w b (mI f)) (i : Int) : (Instr.lookup 39 (.map (some b)) (.int .i64 i) false).run Try.prog w = .ok (.int .i64 ((f i).getD 0)) w := by
  obtain ⟨es, clock, hb, F, hf, _⟩ := h
  have hz := zI w
  rcases findNow_spec (d := .int .i64) (k := .int .i64 i) (by simp [IsKey]) es.toList 0 F.isKey with ⟨h1, h2⟩ | ⟨j, e, h1, h2, h3⟩
  · have e0 : f i = none := by
      have := hf i
      rw [findAt_none F i h2] at this
      unfold mI at this
      cases hfi : f i with
      | none => rfl
      | some x => rw [hfi] at this; cases this
    rw [e0]
    simp [Instr.lookup, run_underlying Try.underlying39, MapKept.run_getObj_map hb, MapKept.run_checkKey Try.underlying3 (show IsKey (.int .i64) (.int .i64 i) by simp [IsKey]), MapKept.run_findKey Try.underlying3 h1, Result.andThen, hz]
  · have e0 : (f i).map (Value.int .i64) = some e.val := by
      have := hf i
      rw [findAt_some F i h2 h3] at this
      exact this.symm
    cases hfi : f i with
    | none => rw [hfi] at e0; cases e0
    | some x =>
      rw [hfi] at e0
      have ev : e.val = .int .i64 x := (Option.some.inj e0).symm
      simp [Instr.lookup, run_underlying Try.underlying39, MapKept.run_getObj_map hb, MapKept.run_checkKey Try.underlying3 (show IsKey (.int .i64) (.int .i64 i) by simp [IsKey]), MapKept.run_findKey Try.underlying3 h1, Result.andThen, ev]
theorem putI {w : World} {b : Nat} {f : Int → Option Int} (h : BMap w b (mI f)) (i v : Int) :
    ∃ w2, (Instr.mapUpdate 39 (.map (some b)) (.int .i64 i) (.int .i64 v)).run Try.prog w = .ok () w2 ∧ BMap w2 b (mI (An.put f i (some v))) ∧ Only (fun c => c = b) w w2 ∧ w2.heap.size = w.heap.size := by
  obtain ⟨o, h1, h2⟩ := h.put Try.underlying39 Try.underlying3 i (.int .i64 v)
  refine ⟨_, h1, h2.congr fun c => ?_, ⟨rfl, rfl, rfl, by simp, fun c _ hc => ?_⟩, by simp⟩
  · unfold mI An.put
    by_cases hc : c = i
    · subst hc; simp
    · simp [hc]
  · exact Array.getElem?_setIfInBounds_ne fun e => hc e.symm
theorem own_mapB {w : World} {b B size n : Nat} {f : Int → Option Value} {e : TypeId} {v : Value} {xs : List Value} (h : BMap w b f) (ho : w.ownsRow B e size v n xs) : v.ownBlock ≠ some b := by
  obtain ⟨es, clock, hb, _⟩ := h
  obtain ⟨_, ⟨rfl, _⟩ | ⟨g', cap, cur, rfl, _, hg, _⟩⟩ := ho
  · simp [Value.ownBlock]
  · intro hv
    simp only [Value.ownBlock, Option.some.injEq] at hv
    subst hv
    rw [hg] at hb; cases hb
/-- How many a map holds. -/
theorem lenI {w : World} {b : Nat} {f : Int → Option Int} (h : BMap w b (mI f)) {P : List Row2} (hP : An.TellsP f P) : (Builtin.len_ #[39] 3 #[.map (some b)]).run Try.prog w = .ok (.int .i64 P.length) w := by
  have hn : (P.map (·.1)).Nodup := by
    rw [List.nodup_iff_pairwise_ne, List.pairwise_map]
    exact hP.rise.imp fun h => by omega
  obtain ⟨es, c, hb, _, hp⟩ := BMap.list h (T := P) (fun x => x.1) (fun x => .int .i64 x.2) hn (fun x hx => by unfold mI; rw [(hP.all x.1 x.2).2 hx]; rfl) fun i v hv => by
    unfold mI at hv
    cases hf : f i with
    | none => rw [hf] at hv; cases hv
    | some x => exact ⟨_, (hP.all i x).1 hf, rfl⟩
  have hl : es.size = P.length := by
    have := hp.length_eq
    simpa using this
  simp [Builtin.len_, run_underlying Try.underlying39, MapKept.run_getObj_map hb, Result.andThen, goInt, hl]
/-- Which transactions were named, and how often at most. -/
structure Cnt13 (cnt : Int → Option Int) (E : List En) (k : Nat) : Prop where
  all : ∀ n, (cnt n).isSome = true ↔ ∃ x ∈ E, x.2.txn = n
  few : ∀ n c, cnt n = some c → 0 ≤ c ∧ c ≤ k
theorem Cnt13.more {cnt : Int → Option Int} {E : List En} {k : Nat} (h : Cnt13 cnt E k) : Cnt13 cnt E (k + 1) := ⟨h.all, fun n c e => by have := h.few n c e; omega⟩
theorem Cnt13.add {cnt : Int → Option Int} {E : List En} {k : Nat} (h : Cnt13 cnt E k) (x : En) : Cnt13 (An.put cnt x.2.txn (some ((cnt x.2.txn).getD 0 + 1))) (E ++ [x]) (k + 1) := by
  refine ⟨fun n => ?_, fun n c e => ?_⟩
  · by_cases hn : n = x.2.txn
    · subst hn
      rw [An.put_at]
      exact ⟨fun _ => ⟨x, by simp, rfl⟩, fun _ => rfl⟩
    · rw [An.put_ne _ _ hn, h.all n]
      constructor
      · rintro ⟨y, hy, e⟩; exact ⟨y, List.mem_append_left _ hy, e⟩
      · rintro ⟨y, hy, e⟩
        rcases List.mem_append.1 hy with hy | hy
        · exact ⟨y, hy, e⟩
        · rw [List.mem_singleton.1 hy] at e; exact absurd e.symm hn
  · by_cases hn : n = x.2.txn
    · subst hn
      rw [An.put_at] at e
      obtain rfl := Option.some.inj e
      cases hc : cnt x.2.txn with
      | none => simp; omega
      | some d => have := h.few _ _ hc; simp; omega
    · rw [An.put_ne _ _ hn] at e
      have := h.few _ _ e
      omega
/-- Who is taken. -/
def okB (x : En) : Bool := decide (1 ≤ x.2.kind) && decide (x.2.kind ≤ 4) && decide (1 ≤ x.1) && decide (x.1 ≤ 1099511627776)
theorem okB_iff {x : En} : okB x = true ↔ 1 ≤ x.2.kind ∧ x.2.kind ≤ 4 ∧ 1 ≤ x.1 ∧ x.1 ≤ 1099511627776 := by
  unfold okB
  simp only [Bool.and_eq_true, decide_eq_true_eq]
  exact ⟨fun h => ⟨h.1.1.1, h.1.1.2, h.1.2, h.2⟩, fun h => ⟨⟨⟨h.1, h.2.1⟩, h.2.2.1⟩, h.2.2.2⟩⟩
/-- The last place. -/
structure Last13 (at_ : Int) (E : List En) : Prop where
  pos : 0 ≤ at_
  few : at_ ≤ 1099511627776
  all : ∀ x ∈ E, x.1 ≤ at_
end Go.Proofs.Ytgjkhjlobfblcaa
