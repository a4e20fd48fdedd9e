/- Package analysis: what was gathered, in memory: two maps. -/
import Derived.Test.YtgjkhjlobfblcaaAsA
import Derived.Test.YtgjkhjlobfblcaaAnB
import Derived.Test.YtgjkhjlobfblcaaRng
import Derived.Test.YtgjkhjlobfblcaaRegionT
import Derived.Test.YtgjkhjlobfblcaaLoadG
namespace Go.Proofs.Ytgjkhjlobfblcaa
open Go.RowKit Go.MapKept

def tV (n : Int) (v : Int × Int) : Value := .agg #[.int .i64 n, .int .i64 v.1, .int .i64 v.2]
def pV (n : Int) (v : Int) : Value := .agg #[.int .i64 n, .int .i64 v]
def tF (f : An.TF) : Int → Option Value := fun n => (f n).map (tV n)
def pF (f : An.PF) : Int → Option Value := fun n => (f n).map (pV n)
/-- Two maps hold what was gathered. -/
structure IsTa (w : World) (mt mp : Nat) (s : An.Ta) : Prop where
  t : BMap w mt (tF s.t)
  p : BMap w mp (pF s.p)
  ne : mt ≠ mp
def stV (mt mp : Nat) : Value := .agg #[.map (some mt), .map (some mp)]
/-- One of the two, or both. -/
def Two (mt mp : Nat) (b : Nat) : Prop := b = mt ∨ b = mp
theorem zT (w : World) : (zeroValue 44).run Try.prog w = .ok (.agg #[.int .i64 0, .int .i64 0, .int .i64 0]) w := by kernel_rfl
theorem zP (w : World) : (zeroValue 42).run Try.prog w = .ok (.agg #[.int .i64 0, .int .i64 0]) w := by kernel_rfl
/-- What a look-up of a transaction tells. -/
def lookT (f : An.TF) (n : Int) : Value := .tuple #[(match f n with | none => .agg #[.int .i64 0, .int .i64 0, .int .i64 0] | some v => tV n v), .bool (f n).isSome]
def lookP (f : An.PF) (n : Int) : Value := .tuple #[(match f n with | none => .agg #[.int .i64 0, .int .i64 0] | some v => pV n v), .bool (f n).isSome]
namespace IsTa
variable {w w' : World} {mt mp : Nat} {s : An.Ta}
theorem keepS (h : IsTa w mt mp s) {S : Nat → Prop} (hb : Only S w w') (h1 : ¬ S mt) (h2 : ¬ S mp) : IsTa w' mt mp s :=
  ⟨h.t.keep (hb.block mt h.t.lt h1), h.p.keep (hb.block mp h.p.lt h2), h.ne⟩
theorem keep (h : IsTa w mt mp s) (hb : Below w.heap.size w w') : IsTa w' mt mp s := h.keepS (S := fun _ => False) (.ofBelow hb) id id
theorem alloc (h : IsTa w mt mp s) (o : Obj) : IsTa (w.alloc o) mt mp s := h.keep ((Below.refl _ _).alloc (Nat.le_refl _) _)
theorem cells1 (h : IsTa w mt mp s) {g : Nat} {t : TypeId} {cs : Array Value} (k : Blk w g t cs) : ¬ Two mt mp g := fun e => e.elim (h.t.cells k) (h.p.cells k)
theorem lookT_ (h : IsTa w mt mp s) (n : Int) : (Instr.lookup 51 (.map (some mt)) (.int .i64 n) true).run Try.prog w = .ok (lookT s.t n) w := by
  rw [h.t.isMap.look Try.underlying51 Try.underlying3 n (zT w)]
  unfold lookT tF
  cases s.t n <;> rfl
theorem lookP_ (h : IsTa w mt mp s) (n : Int) : (Instr.lookup 52 (.map (some mp)) (.int .i64 n) true).run Try.prog w = .ok (lookP s.p n) w := by
  rw [h.p.isMap.look Try.underlying52 Try.underlying3 n (zP w)]
  unfold lookP pF
  cases s.p n <;> rfl
theorem putT (h : IsTa w mt mp s) (n : Int) (v : Int × Int) :
    ∃ w2, (Instr.mapUpdate 51 (.map (some mt)) (.int .i64 n) (.agg #[.int .i64 n, .int .i64 v.1, .int .i64 v.2])).run Try.prog w = .ok () w2 ∧ IsTa w2 mt mp ⟨An.put s.t n (some v), s.p⟩ ∧ Only (Two mt mp) w w2 ∧ w2.heap.size = w.heap.size := by
  obtain ⟨o, h1, h2⟩ := h.t.put Try.underlying51 Try.underlying3 n (tV n v)
  refine ⟨_, h1, ⟨h2.congr fun c => ?_, h.p.keep ?_, h.ne⟩, ⟨rfl, rfl, rfl, by simp, fun b _ hb => ?_⟩, by simp⟩
  · unfold tF An.put
    by_cases hc : c = n
    · subst hc; simp
    · simp [hc]
  · exact Array.getElem?_setIfInBounds_ne h.ne
  · exact Array.getElem?_setIfInBounds_ne fun e => hb (.inl e.symm)
theorem putP (h : IsTa w mt mp s) (n : Int) (v : Int) :
    ∃ w2, (Instr.mapUpdate 52 (.map (some mp)) (.int .i64 n) (.agg #[.int .i64 n, .int .i64 v])).run Try.prog w = .ok () w2 ∧ IsTa w2 mt mp ⟨s.t, An.put s.p n (some v)⟩ ∧ Only (Two mt mp) w w2 ∧ w2.heap.size = w.heap.size := by
  obtain ⟨o, h1, h2⟩ := h.p.put Try.underlying52 Try.underlying3 n (pV n v)
  refine ⟨_, h1, ⟨h.t.keep ?_, h2.congr fun c => ?_, h.ne⟩, ⟨rfl, rfl, rfl, by simp, fun b _ hb => ?_⟩, by simp⟩
  · exact Array.getElem?_setIfInBounds_ne h.ne.symm
  · unfold pF An.put
    by_cases hc : c = n
    · subst hc; simp
    · simp [hc]
  · exact Array.getElem?_setIfInBounds_ne fun e => hb (.inr e.symm)
theorem dropT (h : IsTa w mt mp s) (n : Int) :
    ∃ w2, (Builtin.delete_ #[51, 3] 0 #[.map (some mt), .int .i64 n]).run Try.prog w = .ok (.tuple #[]) w2 ∧ IsTa w2 mt mp ⟨An.put s.t n none, s.p⟩ ∧ Only (Two mt mp) w w2 ∧ w2.heap.size = w.heap.size := by
  obtain ⟨o, h1, h2⟩ := h.t.drop Try.underlying51 Try.underlying3 n 0
  refine ⟨_, h1, ⟨h2.congr fun c => ?_, h.p.keep ?_, h.ne⟩, ⟨rfl, rfl, rfl, by simp, fun b _ hb => ?_⟩, by simp⟩
  · unfold tF An.put
    by_cases hc : c = n
    · subst hc; simp
    · simp [hc]
  · exact Array.getElem?_setIfInBounds_ne h.ne
  · exact Array.getElem?_setIfInBounds_ne fun e => hb (.inl e.symm)
end IsTa
end Go.Proofs.Ytgjkhjlobfblcaa
