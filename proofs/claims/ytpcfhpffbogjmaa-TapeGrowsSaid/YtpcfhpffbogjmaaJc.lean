/- Texts that belong together, joined: Wl, WalA, WalB, WalC, WalD. -/
import Derived.Test.YtpcfhpffbogjmaaEntP
import Derived.Test.YtpcfhpffbogjmaaJb
import Derived.Test.YtpcfhpffbogjmaaJa
import Derived.Test.YtpcfhpffbogjmaaRegionS
import Derived.Test.YtpcfhpffbogjmaaRecL
import Derived.Test.YtpcfhpffbogjmaaRecShort
import Derived.Laws.Concat
import Derived.Deep.AppendLies
import Derived.IntWalk
/- A log as the document tells it: plain mathematics. -/
namespace Go.Proofs.Ytpcfhpffbogjmaa
open Go.RowKit

/-- The records that stand in a text: what was read is laid so. -/
theorem allL_some : ∀ (n : Nat) (at_ : Int) (l : List UInt8) (es : List Ent), allL n at_ l = some es → l = (es.map Prod.snd).flatMap lay ∧ es = entsOf at_ (es.map Prod.snd) ∧ ∀ r ∈ es.map Prod.snd, May r
  | n, at_, [], es, h => by
    have : es = [] := by cases n <;> simp [allL] at h <;> exact h
    subst this
    exact ⟨rfl, rfl, fun r hr => by simp at hr⟩
  | 0, _, _ :: _, es, h => by simp [allL] at h
  | n + 1, at_, b :: l, es, h => by
    cases hp : recP (b :: l) with
    | none => rw [allL_stop (by simp) hp] at h; cases h
    | some x =>
      have hx : recP (b :: l) = some (x.1, x.2) := hp
      obtain ⟨hm, hl⟩ := recP_some hx
      rw [allL_step hx] at h
      cases hr : allL n (at_ + ((b :: l).length : Int) - (x.2.length : Int)) x.2 with
      | none => rw [hr] at h; cases h
      | some fs =>
        rw [hr] at h
        simp only [Option.map_some, Option.some.injEq] at h
        subst h
        obtain ⟨h1, h2, h3⟩ := allL_some n _ x.2 fs hr
        refine ⟨?_, ?_, fun r hr => ?_⟩
        · rw [List.map_cons, List.flatMap_cons, ← h1]; exact hl
        · show (at_, x.1) :: fs = (at_, x.1) :: entsOf (at_ + (lay x.1).length) (fs.map Prod.snd)
          have e : at_ + ((b :: l).length : Int) - (x.2.length : Int) = at_ + (lay x.1).length := by rw [hl]; simp; omega
          rw [e] at h2
          rw [← h2]
        · rw [List.map_cons, List.mem_cons] at hr
          rcases hr with rfl | hr
          · exact hm
          · exact h3 r hr
theorem entsOf_snd : ∀ (at_ : Int) (rs : List Rc), (entsOf at_ rs).map Prod.snd = rs
  | _, [] => rfl
  | at_, r :: rs => by show r :: (entsOf _ rs).map Prod.snd = _; rw [entsOf_snd]
theorem entsOf_shift : ∀ (at_ d : Int) (rs : List Rc), (entsOf at_ rs).map (fun x => (x.1 + d, x.2)) = entsOf (at_ + d) rs
  | _, _, [] => rfl
  | at_, d, r :: rs => by
    show (at_ + d, r) :: (entsOf (at_ + (lay r).length) rs).map _ = (at_ + d, r) :: entsOf (at_ + d + (lay r).length) rs
    rw [entsOf_shift, show at_ + (lay r).length + d = at_ + d + (lay r).length by omega]
theorem entsOf_app : ∀ (at_ : Int) (rs qs : List Rc), entsOf at_ (rs ++ qs) = entsOf at_ rs ++ entsOf (at_ + (rs.flatMap lay).length) qs
  | at_, [], qs => by simp [entsOf]
  | at_, r :: rs, qs => by
    show (at_, r) :: entsOf _ (rs ++ qs) = _
    rw [entsOf_app]
    simp only [List.flatMap_cons, List.length_append, entsOf, List.cons_append]
    rw [show at_ + ((lay r).length : Int) + ((rs.flatMap lay).length : Int) = at_ + (((lay r).length + (rs.flatMap lay).length : Nat) : Int) by omega]
theorem entsOf_ge : ∀ (at_ : Int) (rs : List Rc), (∀ r ∈ rs, May r) → ∀ x ∈ entsOf at_ rs, at_ ≤ x.1 ∧ x.1 < at_ + (rs.flatMap lay).length
  | _, [], _, x, h => by simp [entsOf] at h
  | at_, r :: rs, hm, x, h => by
    have hp := lay_pos (hm r (by simp))
    rw [List.flatMap_cons, List.length_append]
    rcases List.mem_cons.1 h with rfl | h
    · exact ⟨Int.le_refl _, by simp only; omega⟩
    · have := entsOf_ge _ rs (fun q hq => hm q (by simp [hq])) x h
      omega

/-- A sector's records, as bytes and as a text. -/
def body (rs : List Rc) : List UInt8 := rs.flatMap lay
def bodyS (rs : List Rc) : ByteArray := ⟨(body rs).toArray⟩
theorem bodyS_data (rs : List Rc) : (bodyS rs).data.toList = body rs := rfl
theorem bodyS_size (rs : List Rc) : (bodyS rs).size = (body rs).length := by simp [bodyS, ByteArray.size]
theorem body_snoc (rs : List Rc) (r : Rc) : body (rs ++ [r]) = body rs ++ lay r := by simp [body]
theorem body_pos {rs : List Rc} (hm : ∀ r ∈ rs, May r) (hne : rs ≠ []) : 0 < (body rs).length := by
  cases rs with
  | nil => exact absurd rfl hne
  | cons r rs =>
    have := lay_pos (hm r (by simp))
    simp only [body, List.flatMap_cons, List.length_append]
    omega
theorem allS_body {rs : List Rc} (hm : ∀ r ∈ rs, May r) : allL (bodyS rs).data.toList.length 0 (bodyS rs).data.toList = some (entsOf 0 rs) := allL_lay rs hm _ 0 (Nat.le_refl _)
/-- The records of a text that is all records. -/
def recsOf (b : ByteArray) : List Rc := ((allL b.data.toList.length 0 b.data.toList).getD []).map Prod.snd
theorem recsOf_body {rs : List Rc} (hm : ∀ r ∈ rs, May r) : recsOf (bodyS rs) = rs := by
  unfold recsOf
  rw [allS_body hm]
  exact entsOf_snd 0 rs
theorem body_recs {b : ByteArray} (h : (allL b.data.toList.length 0 b.data.toList).isSome = true) : bodyS (recsOf b) = b ∧ ∀ r ∈ recsOf b, May r := by
  obtain ⟨es, he⟩ := Option.isSome_iff_exists.1 h
  obtain ⟨h1, h2, h3⟩ := allL_some _ _ _ _ he
  unfold recsOf
  rw [he]
  exact ⟨str_ext (by rw [bodyS_data]; exact h1.symm), h3⟩

/-- A log: its sectors from low on that have records. -/
structure Wl where
  base : Nat
  size : Nat
  epoch : Nat
  low : Nat
  first : Nat
  secs : List (List Rc)
namespace Wl
def end_ (l : Wl) : Nat := l.low + l.secs.length
structure Ok (l : Wl) : Prop where
  s8 : 8 ≤ l.size
  s64 : l.size ≤ 64
  b0 : l.base + l.size ≤ 512
  l1 : 1 ≤ l.low
  lm : l.low ≤ 2147483647
  fl : l.low ≤ l.first
  fe : l.first ≤ l.end_
  len : l.secs.length ≤ l.size
  sec : ∀ rs ∈ l.secs, rs ≠ [] ∧ (∀ r ∈ rs, May r) ∧ (body rs).length ≤ 112
  e1 : 1 ≤ l.epoch
  em : l.epoch ≤ 4294967296
def new (base n : Nat) : Wl := ⟨base, n, 1, 1, 1, []⟩
theorem Ok.new {base n : Nat} (h8 : 8 ≤ n) (h64 : n ≤ 64) (hb : base + n ≤ 512) : (Wl.new base n).Ok :=
  ⟨h8, h64, hb, Nat.le_refl _, by simp [Wl.new], Nat.le_refl _, Nat.le_refl _, Nat.zero_le _, fun rs h => by simp [Wl.new] at h, Nat.le_refl _, by simp [Wl.new]⟩
/-- Does a record go into the open sector? -/
def joins (l : Wl) (r : Rc) : Prop := l.first < l.end_ ∧ (body (l.secs.getLastD [])).length + (lay r).length ≤ 112
instance (l : Wl) (r : Rc) : Decidable (l.joins r) := inferInstanceAs (Decidable (_ ∧ _))
/-- Append of a record that may be. -/
def put (l : Wl) (r : Rc) : Wl := if l.joins r then { l with secs := l.secs.dropLast ++ [l.secs.getLastD [] ++ [r]] } else if l.secs.length < l.size then { l with secs := l.secs ++ [[r]] } else l
def putE (l : Wl) (r : Rc) : Nat := if l.joins r then 0 else if l.secs.length < l.size then 0 else 5
def putAt (l : Wl) (r : Rc) : Nat := if l.joins r then (l.end_ - 1) * 128 + (body (l.secs.getLastD [])).length else if l.secs.length < l.size then l.end_ * 128 else 0
theorem lastD_snoc {α : Type} (l : List α) (x d : α) : (l ++ [x]).getLastD d = x := by simp
theorem snoc_of {α : Type} {l : List α} (h : 0 < l.length) : ∃ i x, l = i ++ [x] := ⟨l.dropLast, l.getLast (List.ne_nil_of_length_pos h), (List.dropLast_concat_getLast _).symm⟩
theorem Ok.put {l : Wl} (h : l.Ok) {r : Rc} (hm : May r) (hl : (lay r).length ≤ 112) : (l.put r).Ok := by
  unfold Wl.put
  split
  · rename_i hj
    have hlt : 0 < l.secs.length := by have := hj.1; have := h.fl; unfold Wl.end_ at *; omega
    obtain ⟨i, x, e⟩ := snoc_of hlt
    have hx := h.sec x (by rw [e]; simp)
    have h2 := hj.2
    rw [e, lastD_snoc] at h2
    refine ⟨h.s8, h.s64, h.b0, h.l1, h.lm, h.fl, ?_, ?_, fun rs hrs => ?_, h.e1, h.em⟩
    · have := h.fe
      unfold Wl.end_ at *
      simp only [e, List.dropLast_concat, lastD_snoc, List.length_append, List.length_singleton] at this ⊢
      exact this
    · have := h.len
      simp only [e, List.dropLast_concat, lastD_snoc, List.length_append, List.length_singleton] at this ⊢
      exact this
    · simp only [e, List.dropLast_concat, lastD_snoc, List.mem_append, List.mem_singleton] at hrs
      rcases hrs with hrs | rfl
      · exact h.sec rs (by rw [e]; simp [hrs])
      · refine ⟨by simp, fun q hq => ?_, ?_⟩
        · rcases List.mem_append.1 hq with hq | hq
          · exact hx.2.1 q hq
          · simp at hq; subst hq; exact hm
        · rw [body_snoc, List.length_append]; exact h2
  · split
    · refine ⟨h.s8, h.s64, h.b0, h.l1, h.lm, h.fl, ?_, ?_, fun rs hrs => ?_, h.e1, h.em⟩
      · have := h.fe
        unfold Wl.end_ at *
        simp only [List.length_append, List.length_singleton]
        omega
      · simp only [List.length_append, List.length_singleton]; omega
      · rcases List.mem_append.1 hrs with hrs | hrs
        · exact h.sec rs hrs
        · simp at hrs
          subst hrs
          exact ⟨by simp, fun q hq => by simp at hq; subst hq; exact hm, by simpa [body] using hl⟩
    · exact h
/-- All records, each with its place. -/
def allFrom : Nat → List (List Rc) → List Ent
  | _, [] => []
  | i, rs :: rest => entsOf ((i * 128 : Nat) : Int) rs ++ allFrom (i + 1) rest
def all (l : Wl) : List Ent := allFrom l.low l.secs
def scan (l : Wl) (from_ : Int) : List Ent := l.all.filter fun x => decide (from_ ≤ x.1)
theorem allFrom_app : ∀ (i : Nat) (a b : List (List Rc)), allFrom i (a ++ b) = allFrom i a ++ allFrom (i + a.length) b
  | i, [], b => by simp [allFrom]
  | i, x :: a, b => by
    show entsOf _ x ++ allFrom (i + 1) (a ++ b) = _
    rw [allFrom_app, List.length_cons, show i + 1 + a.length = i + (a.length + 1) by omega]
    simp [allFrom]
theorem putAll {l : Wl} {r : Rc} (h0 : l.putE r = 0) (hfl : l.low ≤ l.first) : (l.put r).all = l.all ++ [((l.putAt r : Int), r)] := by
  unfold Wl.putE at h0
  unfold Wl.put Wl.putAt Wl.all
  split
  · rename_i hj
    have hlt : 0 < l.secs.length := by have := hj.1; unfold Wl.end_ at *; omega
    obtain ⟨i, x, e⟩ := snoc_of hlt
    simp only [Wl.end_, e, List.dropLast_concat, lastD_snoc, List.length_append, List.length_singleton]
    rw [allFrom_app, allFrom_app]
    simp only [allFrom, List.append_nil]
    rw [entsOf_snoc, List.append_assoc]
    congr 3
  · rename_i hj
    rw [if_neg hj] at h0
    split
    · simp only
      rw [allFrom_app]
      simp only [allFrom, entsOf, List.append_nil]
      rfl
    · rename_i hf
      rw [if_neg hf] at h0
      cases h0
end Wl
end Go.Proofs.Ytpcfhpffbogjmaa

/- Package wal: what a log is in memory; the small calls. -/
namespace Go.Proofs.Ytpcfhpffbogjmaa
open Go.RowKit

def logCells (gd : Nat) (l : Wl) (vb : Value) : Array Value := #[.pointer (some ⟨gd, 0, none⟩), .int .i64 l.base, .int .i64 l.size, .int .i64 l.epoch, .int .i64 l.low, .int .i64 l.first, vb]
/-- A log's blocks; its bodies are these. -/
structure LogR (w : World) (F : Foot) (g gd : Nat) (l : Wl) (vb : Value) (n : Nat) (bs : List ByteArray) : Prop where
  head : Blk w g 74 (logCells gd l vb)
  rows : w.ownsRow 0 9 1 vb n (strsV bs)
  fg : F g
  fv : ∀ b, vb.ownBlock = some b → F b
  lt : ∀ b, F b → b < w.heap.size
abbrev LogF (w : World) (F : Foot) (g gd : Nat) (l : Wl) (vb : Value) : Prop := LogR w F g gd l vb l.secs.length (l.secs.map bodyS)
/-- The log at block g, with the footprint F, over the disk at gd, is l. -/
def IsLog (w : World) (F : Foot) (g gd : Nat) (l : Wl) : Prop := l.Ok ∧ ∃ vb, LogF w F g gd l vb
namespace LogR
variable {w w' : World} {F : Foot} {g gd : Nat} {l : Wl} {vb : Value} {n : Nat} {bs : List ByteArray}
theorem keep (h : LogR w F g gd l vb n bs) (hk : ∀ b, F b → w'.heap[b]? = w.heap[b]?) (hs : w.heap.size ≤ w'.heap.size) : LogR w' F g gd l vb n bs :=
  ⟨(hk g h.fg).trans h.head, own_keep h.rows fun b hb => hk b (h.fv b hb), h.fg, h.fv, fun b hb => Nat.lt_of_lt_of_le (h.lt b hb) hs⟩
theorem below (h : LogR w F g gd l vb n bs) (hb : Below w.heap.size w w') : LogR w' F g gd l vb n bs := h.keep (fun b hF => hb.block b (h.lt b hF)) hb.size
theorem only (h : LogR w F g gd l vb n bs) {S : Nat → Prop} (hb : Only S w w') (hS : ∀ b, F b → ¬ S b) : LogR w' F g gd l vb n bs := h.keep (fun b hF => hb.block b (h.lt b hF) (hS b hF)) hb.size
theorem drew (h : LogR w F g gd l vb n bs) : LogR w.drew F g gd l vb n bs := h.keep (fun _ _ => rfl) (Nat.le_refl _)
theorem cells (h : LogR w F g gd l vb n bs) : w.cell? ⟨g, 0, none⟩ = some (.pointer (some ⟨gd, 0, none⟩)) ∧ w.cell? ⟨g, 1, none⟩ = some (.int .i64 l.base) ∧ w.cell? ⟨g, 2, none⟩ = some (.int .i64 l.size) ∧ w.cell? ⟨g, 3, none⟩ = some (.int .i64 l.epoch) ∧
    w.cell? ⟨g, 4, none⟩ = some (.int .i64 l.low) ∧ w.cell? ⟨g, 5, none⟩ = some (.int .i64 l.first) ∧ w.cell? ⟨g, 6, none⟩ = some vb :=
  ⟨h.head.cell 0, h.head.cell 1, h.head.cell 2, h.head.cell 3, h.head.cell 4, h.head.cell 5, h.head.cell 6⟩
theorem vg (h : LogR w F g gd l vb n bs) : vb.ownBlock ≠ some g := own_blk h.rows h.head (by decide)
theorem strsV_set' (bs : List ByteArray) (j : Nat) (s : ByteArray) : (strsV bs).set j (.string s) = strsV (bs.set j s) := by simp [strsV, List.map_set]
/-- A body is written. -/
theorem stored {g2 cap : Nat} (h : LogR w F g gd l (.slice (some ⟨g2, 0, none⟩) n cap) n bs) (j : Nat) (s : ByteArray) :
    LogR (w.setCell ⟨g2, j, none⟩ (.string s)) F g gd l (.slice (some ⟨g2, 0, none⟩) n cap) n (bs.set j s) ∧ Step F F w (w.setCell ⟨g2, j, none⟩ (.string s)) := by
  have hb : (Value.slice (some ⟨g2, 0, none⟩) n cap).ownBlock = some g2 := rfl
  have so := (h.rows.stored j (.string s)).1
  rw [strsV_set'] at so
  exact ⟨⟨(heap_setCell_other w ⟨g2, j, none⟩ g _ fun e => h.vg (by rw [hb, e])).trans h.head, so, h.fg, h.fv, fun c hc => by simpa [World.setCell] using h.lt c hc⟩, (Step.refl F w).set (p := ⟨g2, j, none⟩) (h.fv g2 hb) _⟩
/-- A body more. -/
theorem pushed (h : LogR w F g gd l vb n bs) {gg cap : Nat} {s : ByteArray} (hown : w'.ownsRow 0 9 1 (.slice (some ⟨gg, 0, none⟩) (n + 1) cap) (n + 1) (strsV bs ++ [.string s])) (hg : w.grownBy w' vb.ownBlock) (hat : vb.ownBlock = some gg ∨ gg = w.heap.size) (hlt : gg < w'.heap.size) :
    LogR (w'.setCell ⟨g, 6, none⟩ (.slice (some ⟨gg, 0, none⟩) (n + 1) cap)) (fun b => F b ∨ b = gg) g gd l (.slice (some ⟨gg, 0, none⟩) (n + 1) cap) (n + 1) (bs ++ [s]) ∧ Step F (fun b => F b ∨ b = gg) w (w'.setCell ⟨g, 6, none⟩ (.slice (some ⟨gg, 0, none⟩) (n + 1) cap)) := by
  have hh : Blk w' g 74 (logCells gd l vb) := (hg.block g h.head.lt fun e => h.vg e.symm).trans h.head
  have hne : gg ≠ g := fun e => own_blk hown hh (by decide) (by rw [← e]; rfl)
  refine ⟨⟨hh.set 6 _, ?_, .inl h.fg, fun b hb => by simp only [Value.ownBlock, Option.some.injEq] at hb; exact .inr hb.symm, fun b hb => ?_⟩, ?_⟩
  · rw [show strsV (bs ++ [s]) = strsV bs ++ [.string s] by simp [strsV]]
    exact own_keep hown fun b hb => heap_setCell_other w' ⟨g, 6, none⟩ b _ fun e => by simp only [Value.ownBlock, Option.some.injEq] at hb; exact hne (by rw [hb, e])
  · have : b < w'.heap.size := by
      rcases hb with hb | rfl
      · exact Nat.lt_of_lt_of_le (h.lt b hb) hg.size
      · exact hlt
    simpa [World.setCell] using this
  · refine Step.set (w' := w') ?_ (p := ⟨g, 6, none⟩) (.inl h.fg) _
    exact ⟨hg.os, hg.tape, hg.output, hg.size, fun b hb hf => hg.block b hb fun e => hf (h.fv b e.symm), fun b hb => hb.elim .inl fun e => by
      subst e
      rcases hat with hat | hat
      · exact .inl (h.fv b hat)
      · exact .inr (by omega)⟩
end LogR
theorem IsLog.below {w w' : World} {F : Foot} {g gd : Nat} {l : Wl} (h : IsLog w F g gd l) (hb : Below w.heap.size w w') : IsLog w' F g gd l := ⟨h.1, h.2.elim fun vb r => ⟨vb, r.below hb⟩⟩
theorem IsLog.drew {w : World} {F : Foot} {g gd : Nat} {l : Wl} (h : IsLog w F g gd l) : IsLog w.drew F g gd l := ⟨h.1, h.2.elim fun vb r => ⟨vb, r.drew⟩⟩
theorem IsLog.only {w w' : World} {F : Foot} {g gd : Nat} {l : Wl} (h : IsLog w F g gd l) {S : Nat → Prop} (hb : Only S w w') (hS : ∀ b, F b → ¬ S b) : IsLog w' F g gd l := ⟨h.1, h.2.elim fun vb r => ⟨vb, r.only hb hS⟩⟩
theorem IsLog.lt {w : World} {F : Foot} {g gd : Nat} {l : Wl} (h : IsLog w F g gd l) : ∀ b, F b → b < w.heap.size := h.2.elim fun _ r => r.lt

/-- A log's head alone, as it stands while it is opened. -/
def IsLog0 (w : World) (F : Foot) (g gd : Nat) (l : Wl) : Prop := (8 ≤ l.size ∧ l.size ≤ 64 ∧ l.base + l.size ≤ 512 ∧ l.low ≤ 2147483647) ∧ ∃ vb n bs, LogR w F g gd l vb n bs
theorem IsLog.zero {w : World} {F : Foot} {g gd : Nat} {l : Wl} (h : IsLog w F g gd l) : IsLog0 w F g gd l := ⟨⟨h.1.s8, h.1.s64, h.1.b0, h.1.lm⟩, h.2.elim fun vb r => ⟨vb, _, _, r⟩⟩
theorem IsLog0.below {w w' : World} {F : Foot} {g gd : Nat} {l : Wl} (h : IsLog0 w F g gd l) (hb : Below w.heap.size w w') : IsLog0 w' F g gd l := ⟨h.1, h.2.elim fun vb h => h.elim fun n h => h.elim fun bs r => ⟨vb, n, bs, r.below hb⟩⟩
theorem IsLog0.cells {w : World} {F : Foot} {g gd : Nat} {l : Wl} (h : IsLog0 w F g gd l) : w.cell? ⟨g, 0, none⟩ = some (.pointer (some ⟨gd, 0, none⟩)) ∧ w.cell? ⟨g, 1, none⟩ = some (.int .i64 l.base) ∧ w.cell? ⟨g, 2, none⟩ = some (.int .i64 l.size) ∧ w.cell? ⟨g, 4, none⟩ = some (.int .i64 l.low) := by
  obtain ⟨_, vb, n, bs, r⟩ := h
  obtain ⟨c0, c1, c2, _, c4, _⟩ := r.cells
  exact ⟨c0, c1, c2, c4⟩
/-- A call that only reads. -/
def Peeks (w : World) (v : Value) (e : Ending) (w' : World) : Prop := e = .returned v ∧ ∃ n, w' = w.drewN n
theorem drewN_below (w : World) (n : Nat) : Below w.heap.size w (w.drewN n) := ⟨rfl, rfl, rfl, Nat.le_refl _, fun _ _ => rfl⟩

section
variable {w : World} {F : Foot} {g gd : Nat} {l : Wl}
set_option maxRecDepth 100000 in
set_option maxHeartbeats 2000000 in
theorem end_any (h : IsLog w F g gd l) : Calls Try.prog 32 #[.pointer (some ⟨g, 0, none⟩)] w (Peeks w (.int .i64 l.end_)) := by
  obtain ⟨ok, vb, r⟩ := h
  obtain ⟨va, vc, hvs⟩ := own_slice r.rows
  subst hvs
  obtain ⟨_, _, _, _, c4, _, c6⟩ := r.cells
  have h1 : (l.low : Int) ≤ 2147483647 := by have := ok.lm; omega
  have h2 : (l.secs.length : Int) ≤ 64 := by have := ok.len; have := ok.s64; omega
  clear r ok
  unfold Wl.end_
  generalize l.low = x at *
  generalize l.secs.length = y at *
  go_enter Try.func32, Try.ntmps32
  go_wp2
  go_quiet (fail)
  go_wp2
  go_ret
  exact ⟨by rw [Int.natCast_add]; rfl, _, rfl⟩

set_option maxRecDepth 100000 in
set_option maxHeartbeats 2000000 in
theorem place_any (h : IsLog0 w F g gd l) (k : Nat) (hk : k ≤ 4294967296) : Calls Try.prog 51 #[.pointer (some ⟨g, 0, none⟩), .int .i64 k] w (Peeks w (.int .i64 ((l.base + k % l.size : Nat) : Int))) := by
  obtain ⟨_, c1, c2, _⟩ := h.cells
  obtain ⟨⟨s8, s64, b0, _⟩, _⟩ := h
  have h1 : (l.base : Int) ≤ 512 := by omega
  have h2 : (l.size : Int) ≤ 64 := by omega
  have h3 : (8 : Int) ≤ l.size := by omega
  have h4 : (k : Int) ≤ 4294967296 := by omega
  clear s8 s64 b0
  generalize l.base = x at *
  generalize l.size = y at *
  have hm : (k : Int) % (y : Int) < 64 := by have := Int.emod_lt_of_pos (k : Int) (show (0 : Int) < y by omega); omega
  have hm0 : 0 ≤ (k : Int) % (y : Int) := Int.emod_nonneg _ (by omega)
  go_enter Try.func51, Try.ntmps51
  go_wp2
  go_quiet (fail)
  go_wp2
  go_ret
  exact ⟨by rw [Int.natCast_add, Int.natCast_emod]; rfl, _, rfl⟩

set_option maxRecDepth 100000 in
set_option maxHeartbeats 2000000 in
theorem low_any (h : IsLog w F g gd l) : Calls Try.prog 36 #[.pointer (some ⟨g, 0, none⟩)] w fun e w' => e = .returned (.int .i64 l.low) ∧ w = w' := by
  obtain ⟨ok, vb, r⟩ := h
  obtain ⟨_, _, _, _, c4, _⟩ := r.cells
  clear r ok
  generalize l.low = x at *
  go_enter Try.func36, Try.ntmps36
  go_wp2
  go_ret
  exact ⟨rfl, rfl⟩
set_option maxRecDepth 100000 in
set_option maxHeartbeats 2000000 in
theorem safe_any (h : IsLog w F g gd l) (at_ : Nat) (ha : at_ ≤ 1099511627776) (b : Bool) (hb : b = decide (at_ / 128 < l.first)) : Calls Try.prog 20 #[.pointer (some ⟨g, 0, none⟩), .int .i64 at_] w fun e w' => e = .returned (.bool b) ∧ w = w' := by
  obtain ⟨ok, vb, r⟩ := h
  obtain ⟨_, _, _, _, _, c5, _⟩ := r.cells
  have HB := Lib.hid hb
  have ha1 : (at_ : Int) ≤ 1099511627776 := by omega
  clear r ok hb ha
  generalize l.first = x at *
  go_enter Try.func20, Try.ntmps20
  go_wp2
  go_ret
  refine ⟨?_, rfl⟩
  show Ending.returned (.bool (decide ((at_ : Int) / 128 < (x : Int)))) = _
  rw [HB.out]
  congr 2
  exact decide_eq_decide.2 (by omega)

/-- The open sector: its number, its body. -/
def Wl.openNo (l : Wl) : Nat := if l.end_ = l.first then l.end_ else l.end_ - 1
def Wl.openRs (l : Wl) : List Rc := if l.end_ = l.first then [] else l.secs.getLastD []
set_option maxRecDepth 100000 in
set_option maxHeartbeats 2000000 in
theorem open_any (h : IsLog w F g gd l) : Calls Try.prog 31 #[.pointer (some ⟨g, 0, none⟩)] w (Peeks w (.tuple #[.int .i64 l.openNo, .string (bodyS l.openRs)])) := by
  have H1 := Lib.hid (end_any h)
  obtain ⟨ok, vb, r⟩ := h
  obtain ⟨va, vc, hvs⟩ := own_slice r.rows
  subst hvs
  obtain ⟨_, _, _, _, c4, c5, c6⟩ := r.cells
  unfold Wl.openNo Wl.openRs
  have h1 : (l.end_ : Int) ≤ 2147483711 := by have := ok.lm; have := ok.len; have := ok.s64; unfold Wl.end_; omega
  by_cases he : l.end_ = l.first
  · rw [if_pos he, if_pos he]
    rw [← he] at c5
    clear r ok he
    generalize l.end_ = x at *
    go_enter Try.func31, Try.ntmps31
    go_wp2_with fail
    refine H1.out.mono ?_
    rintro e w1 ⟨rfl, n, rfl⟩
    go_wp2
    go_ret2
    exact ⟨rfl, n, rfl⟩
  · rw [if_neg he, if_neg he]
    have hne : ((l.end_ : Int) == l.first) = false := by simp; omega
    have hpos : 0 < l.secs.length := by have := ok.fe; have := ok.fl; unfold Wl.end_ at *; omega
    obtain ⟨g2, cap, hv, hc1, hc2⟩ := own_form r.rows hpos
    obtain ⟨i, x, e⟩ := Wl.snoc_of hpos
    obtain ⟨y, hy⟩ : ∃ y, l.secs.length = y + 1 := ⟨l.secs.length - 1, by omega⟩
    have cl : w.cell? ⟨g2, y, none⟩ = some (.string (bodyS (l.secs.getLastD []))) := by
      have hr := r.rows
      rw [hv] at hr
      rw [hr.cellAt y (by omega)]
      have : i.length = y := by rw [e] at hy; simpa using hy
      rw [e, Wl.lastD_snoc]
      simp [strsV, this]
    cases hv
    rw [hy] at c6
    have g1 : (y : Int) + 1 ≤ 64 := by have := ok.len; have := ok.s64; omega
    have g0 : (y : Int) < ((y + 1 : Nat) : Int) := by omega
    have hz : ((l.end_ - 1 : Nat) : Int) = (l.end_ : Int) - 1 := by have := ok.l1; unfold Wl.end_; omega
    have hz1 : (1 : Int) ≤ l.end_ := by have := ok.l1; unfold Wl.end_; omega
    rw [hz]
    clear r ok he hpos hy hz e hc1 hc2
    generalize l.end_ = x at *
    generalize l.first = f at *
    generalize bodyS (l.secs.getLastD []) = b at *
    go_enter Try.func31, Try.ntmps31
    go_wp2_with fail
    refine H1.out.mono ?_
    rintro e w1 ⟨rfl, n, rfl⟩
    go_wp2
    go_quiet (fail)
    go_wp2
    go_ret2
    exact ⟨rfl, n + nq, by rw [World.drewN_drewN]⟩
set_option maxRecDepth 100000 in
set_option maxHeartbeats 2000000 in
theorem next_any (h : IsLog w F g gd l) : Calls Try.prog 19 #[.pointer (some ⟨g, 0, none⟩)] w (Peeks w (.int .i64 l.openNo)) := by
  have H1 := Lib.hid (open_any h)
  clear h
  generalize bodyS l.openRs = b at *
  generalize l.openNo = x at *
  go_enter Try.func19, Try.ntmps19
  go_wp2_with fail
  refine H1.out.mono ?_
  rintro e w1 ⟨rfl, n, rfl⟩
  go_wp2
  go_ret
  exact ⟨rfl, n, rfl⟩
/-- How many sectors can still be begun. -/
def Wl.room (l : Wl) : Nat := l.size - l.secs.length
end
end Go.Proofs.Ytpcfhpffbogjmaa

/- Package wal: Append. -/
namespace Go.Proofs.Ytpcfhpffbogjmaa
open Go.RowKit

def AppOut (w : World) (F : Foot) (g gd : Nat) (at_ er : Nat) (l' : Wl) (e : Ending) (w' : World) : Prop :=
  e = .returned (.tuple #[.int .i64 at_, .int .i64 er]) ∧ ∃ F', IsLog w' F' g gd l' ∧ Step F F' w w'
theorem toList_pos {u : ByteArray} (h : 0 < u.size) : (u.toList == []) = false := by
  rw [ByteArray.toList_eq]
  have h2 : 0 < u.data.toList.length := h
  cases hc : u.data.toList with
  | nil => rw [hc] at h2; simp at h2
  | cons a b => rfl
theorem info_str : (Try.prog.info? 9).map (fun i => (i.zero, i.size, i.bytes)) = some (some (.string ⟨#[]⟩), 1, 16) := by kernel_rfl
section
variable {w : World} {F : Foot} {g gd : Nat} {l : Wl} {v : Value} {r : Rc}
set_option maxRecDepth 100000 in
set_option maxHeartbeats 4000000 in
theorem append_bad (h : IsLog w F g gd l) (hv : IsRec w v r) (hf : Fit r) (hm : ¬ May r) :
    Calls Try.prog 16 #[.pointer (some ⟨g, 0, none⟩), v] w (AppOut w F g gd 0 1 l) := by
  obtain ⟨vt, vp, rfl, hl⟩ := hv
  have hb0 : Below w.heap.size w (w.alloc (.cells (recCells r vt vp) 50)) := (Below.refl _ _).alloc (Nat.le_refl _) _
  have B0 := Blk.new w 50 (recCells r vt vp)
  have PR : Hid (Calls Try.prog 30 #[.agg (recCells r vt vp)] _ _) := print_no ⟨vt, vp, rfl, hl.keep hb0⟩ hf hm
  have HB := Lib.hid hb0
  have HI := Lib.hid h
  clear hl hf hm hb0 h
  unfold recV
  go_enter Try.func16, Try.ntmps16
  go_wp2_with (refine wpList_load_row rfl 50 _ rfl w.heap.size rfl 50 _ (0, 0) _ B0 Try.underlying50 rfl (by kernel_rfl) ?_)
  refine PR.out.mono ?_
  rintro e w1 ⟨rfl, hb1⟩
  have HB1 := Lib.hid (below2 HB.out hb1)
  clear hb1 PR HB B0
  go_wp2
  go_ret2
  exact ⟨rfl, F, HI.out.below HB1.out, .ofBelow HB1.out⟩

set_option maxRecDepth 100000 in
set_option maxHeartbeats 4000000 in
theorem append_join (h : IsLog w F g gd l) (hv : IsRec w v r) (hm : May r) (hj : l.joins r) :
    Calls Try.prog 16 #[.pointer (some ⟨g, 0, none⟩), v] w (AppOut w F g gd (l.putAt r) 0 (l.put r)) := by
  obtain ⟨vt, vp, rfl, hl⟩ := hv
  have hput := h.1.put hm (lay_short hm)
  have hne : ¬ l.end_ = l.first := by have := hj.1; omega
  have hpos : 0 < l.secs.length := by have := hj.1; have := h.1.fl; unfold Wl.end_ at *; omega
  have hb0 : Below w.heap.size w (w.alloc (.cells (recCells r vt vp) 50)) := (Below.refl _ _).alloc (Nat.le_refl _) _
  have B0 := Blk.new w 50 (recCells r vt vp)
  have PR : Hid (Calls Try.prog 30 #[.agg (recCells r vt vp)] _ _) := print_yes ⟨vt, vp, rfl, hl.keep hb0⟩ hm
  have OP : Hid (∀ W, Below w.heap.size w W → Calls Try.prog 31 #[.pointer (some ⟨g, 0, none⟩)] W (Peeks W (.tuple #[.int .i64 l.openNo, .string (bodyS l.openRs)]))) := fun W hW => open_any (h.below hW)
  obtain ⟨i, x, e⟩ := Wl.snoc_of hpos
  have hlast : l.secs.getLastD [] = x := by rw [e, Wl.lastD_snoc]
  have hno : l.openNo = l.end_ - 1 := by unfold Wl.openNo; rw [if_neg hne]
  have hrs : l.openRs = x := by unfold Wl.openRs; rw [if_neg hne, hlast]
  rw [hno, hrs] at OP
  have hxs := h.1.sec x (by rw [e]; simp)
  have hx0 := body_pos hxs.2.1 hxs.1
  have hj2 := hj.2
  rw [hlast] at hj2
  have hpa : l.putAt r = (l.end_ - 1) * 128 + (body x).length := by unfold Wl.putAt; rw [if_pos hj, hlast]
  have hpu : l.put r = { l with secs := i ++ [x ++ [r]] } := by unfold Wl.put; rw [if_pos hj, hlast]; simp [e]
  have hu : (bodyS x).size = (body x).length := bodyS_size x
  have ht : (⟨(lay r).toArray⟩ : ByteArray).size = (lay r).length := by simp [ByteArray.size]
  have hcat : bodyS x ++ (⟨(lay r).toArray⟩ : ByteArray) = bodyS (x ++ [r]) := str_ext (by rw [ByteArray.data_append, Array.toList_append, bodyS_data, bodyS_data, body_snoc])
  rw [hpa]
  rw [← hu] at hx0 hj2 ⊢
  rw [← ht] at hj2
  have HCAT := Lib.hid hcat
  have HPU := Lib.hid hpu
  have HOK := Lib.hid hput
  have HE := Lib.hid e
  have HB := Lib.hid hb0
  obtain ⟨ok, vb, rr⟩ := h
  have hlen := ok.len
  have h64 := ok.s64
  have hzm : l.end_ - 1 ≤ 2147483711 := by have := ok.lm; unfold Wl.end_; omega
  have RR := Lib.hid rr
  have hiy : l.secs.length = i.length + 1 := by rw [e]; simp
  clear hl hm hb0 hno hrs hxs hpa hpu hu ht hcat e hlast hj hne hput ok
  unfold recV
  generalize (⟨(lay r).toArray⟩ : ByteArray) = t at *
  generalize bodyS x = u at *
  generalize l.end_ - 1 = z at *
  have add : ∀ W, (Op.stringOp .add u t).run Try.prog W = .ok (.string (u ++ t)) W := fun W => run_string_add_sum W _ _ (by omega)
  have hu1 := toList_pos hx0
  have hsum : (u.size : Int) + t.size ≤ 112 := by omega
  have hzi : (z : Int) ≤ 2147483711 := by omega
  go_enter Try.func16, Try.ntmps16
  go_wp2_with (refine wpList_load_row rfl 50 _ rfl w.heap.size rfl 50 _ (0, 0) _ B0 Try.underlying50 rfl (by kernel_rfl) ?_)
  refine PR.out.mono ?_
  rintro e w1 ⟨rfl, hb1⟩
  have HB1 := Lib.hid (below2 HB.out hb1)
  clear hb1 PR HB B0
  go_wp2_with fail
  refine (OP.out _ HB1.out).mono ?_
  rintro e w2 ⟨rfl, nd, rfl⟩
  have HB2 := Lib.hid (HB1.out.trans ((drewN_below w1 nd).mono HB1.out.size))
  clear HB1 OP
  go_upto_region 13 with (fail)
  have r2 : LogR (w1.drewN nd) F g gd l vb (i.length + 1) (l.secs.map bodyS) := by rw [← hiy]; exact RR.out.below HB2.out
  have hyi : (i.length : Int) + 1 ≤ 64 := by omega
  clear hlen h64 hiy rr hpos hj2 hx0 hzm RR
  generalize w1.drewN nd = w3 at *
  obtain ⟨g2, cap, rfl, hcap, hcm⟩ := own_form r2.rows (by omega)
  obtain ⟨_, _, _, _, _, _, c6⟩ := r2.cells
  have cy := r2.rows.cellAt i.length (by omega)
  have fy := r2.rows.frozenAt i.length
  rw [HE.out] at cy
  simp [strsV] at cy
  have g0 : (i.length : Int) < (i.length : Int) + 1 := by omega
  have hw1 : IntKind.i64.wrap (i.length : Int) = (i.length : Int) := IntWalk.i64_in _ (by omega)
  obtain ⟨r3, s3⟩ := r2.drew.stored i.length (u ++ t)
  have hbs : (l.secs.map bodyS).set i.length (u ++ t) = (l.put r).secs.map bodyS := by
    rw [HPU.out, HE.out, HCAT.out]
    simp
  have hln : (l.put r).secs.length = i.length + 1 := by rw [HPU.out]; simp
  have hlc : logCells gd l (.slice (some ⟨g2, 0, none⟩) (i.length + 1) cap) = logCells gd (l.put r) (.slice (some ⟨g2, 0, none⟩) (i.length + 1) cap) := by rw [HPU.out]; rfl
  rw [hbs] at r3
  have R3 : Hid (IsLog (w3.drew.setCell ⟨g2, i.length, none⟩ (.string (u ++ t))) F g gd (l.put r)) := ⟨HOK.out, _, ⟨by rw [← hlc]; exact r3.head, by rw [hln]; exact r3.rows, r3.fg, r3.fv, r3.lt⟩⟩
  have S3 := Lib.hid ((Step.ofBelow (F := F) HB2.out).trans ((Step.refl F w3).drew.trans s3))
  clear r2 r3 s3 hbs hln hlc HPU HOK HE HCAT HB2 hcap hcm
  go_still_tail 14, (by kernel_rfl)
  go_wp2
  go_ret2
  exact ⟨by rw [show ((z * 128 + u.size : Nat) : Int) = (z : Int) * 128 + (u.size : Int) from by omega]; rfl, F, R3.out, S3.out⟩

set_option maxRecDepth 100000 in
set_option maxHeartbeats 8000000 in
theorem append_new1 (h : IsLog w F g gd l) (hv : IsRec w v r) (hm : May r) (hj : ¬ l.joins r) (hne : l.end_ = l.first) (hroom : l.secs.length < l.size) :
    Calls Try.prog 16 #[.pointer (some ⟨g, 0, none⟩), v] w (AppOut w F g gd (l.putAt r) 0 (l.put r)) := by
  obtain ⟨vt, vp, rfl, hl⟩ := hv
  have hput := h.1.put hm (lay_short hm)
  have hb0 : Below w.heap.size w (w.alloc (.cells (recCells r vt vp) 50)) := (Below.refl _ _).alloc (Nat.le_refl _) _
  have B0 := Blk.new w 50 (recCells r vt vp)
  have PR : Hid (Calls Try.prog 30 #[.agg (recCells r vt vp)] _ _) := print_yes ⟨vt, vp, rfl, hl.keep hb0⟩ hm
  have OP : Hid (∀ W, Below w.heap.size w W → Calls Try.prog 31 #[.pointer (some ⟨g, 0, none⟩)] W (Peeks W (.tuple #[.int .i64 l.openNo, .string (bodyS l.openRs)]))) := fun W hW => open_any (h.below hW)
  have hend : l.end_ = l.low + l.secs.length := rfl
  have ht : (⟨(lay r).toArray⟩ : ByteArray).size = (lay r).length := by simp [ByteArray.size]
  have ht2 := lay_short hm
  have htb : (⟨(lay r).toArray⟩ : ByteArray) = bodyS [r] := str_ext (by rw [bodyS_data]; simp [body])
  have hno : l.openNo = l.end_ := by unfold Wl.openNo; rw [if_pos hne]
  have hrs : l.openRs = [] := by unfold Wl.openRs; rw [if_pos hne]
  rw [hno, hrs, show bodyS [] = ⟨#[]⟩ from rfl] at OP
  have HTB := Lib.hid htb
  have HOK := Lib.hid hput
  have HB := Lib.hid hb0
  obtain ⟨ok, vb, rr⟩ := h
  have hlen := ok.len
  have h64 := ok.s64
  have hlm := ok.lm
  have RR := Lib.hid rr
  rw [← ht] at ht2
  have hpu : l.put r = { l with secs := l.secs ++ [[r]] } := by unfold Wl.put; rw [if_neg hj, if_pos hroom]
  have hpa : l.putAt r = l.end_ * 128 := by unfold Wl.putAt; rw [if_neg hj, if_pos hroom]
  rw [hpa]
  have HPU := Lib.hid hpu
  clear hpu hpa
  generalize (⟨(lay r).toArray⟩ : ByteArray) = t at *
  have hzi : (l.end_ : Int) ≤ 2147483711 := by omega
  have hcmp : ¬ ((l.low : Int) + l.size ≤ (l.end_ : Int)) := by omega
  have hzl : (l.low : Int) ≤ 2147483647 := by omega
  have hzs : (l.size : Int) ≤ 64 := by omega
  have hlen2 : l.secs.length ≤ 64 := by omega
  have LC := Lib.hid (rr.cells)
  clear hl hm hb0 hput ht htb hj ok rr hend hlen hlm h64 hroom hno hrs hne
  generalize l.end_ = z at *
  have add : ∀ W, (Op.stringOp .add ⟨#[]⟩ t).run Try.prog W = .ok (.string t) W := fun W => by
    rw [run_string_add_sum W _ _ (by show 0 + t.size ≤ _; omega)]
    congr 2
  have HT2 := Lib.hid ht2
  clear ht2
  unfold recV
  go_enter Try.func16, Try.ntmps16
  go_wp2_with (refine wpList_load_row rfl 50 _ rfl w.heap.size rfl 50 _ (0, 0) _ B0 Try.underlying50 rfl (by kernel_rfl) ?_)
  refine PR.out.mono ?_
  rintro e w1 ⟨rfl, hb1⟩
  have HB1 := Lib.hid (below2 HB.out hb1)
  clear hb1 PR HB B0
  go_wp2_with fail
  refine (OP.out _ HB1.out).mono ?_
  rintro e w2 ⟨rfl, nd, rfl⟩
  have HB2 := Lib.hid (HB1.out.trans ((drewN_below w1 nd).mono HB1.out.size))
  clear HB1 OP
  go_upto_region 10 with (fail)
  have r2 := RR.out.below HB2.out
  clear LC
  generalize w1.drewN nd = w3 at *
  obtain ⟨va, vc, hvs⟩ := own_slice r2.rows
  subst hvs
  obtain ⟨_, _, c2, _, c4, _, c6⟩ := r2.cells
  have R2 := Lib.hid r2
  clear r2
  go_quiet (fail)
  have r4 := R2.out.below (drewN_below w3 nq)
  have BQ := Lib.hid (HB2.out.trans ((drewN_below w3 nq).mono HB2.out.size))
  have e2 := R2.out.head
  clear R2 HB2 c2 c4 c6
  go_upto_region 12 with (fail)
  generalize w3.drewN nq = w4 at *
  have B5 : Below w4.heap.size w4 (w4.alloc (.cells #[.string ⟨#[]⟩] 9)) := (Below.refl _ _).alloc (Nat.le_refl _) _
  have r5 := r4.below B5
  have BQ5 := Lib.hid (BQ.out.trans (B5.mono BQ.out.size))
  have c6 := r4.head.cell 6
  simp [logCells] at c6
  have lg := r5.head.lt
  have nq6 := r5.vg
  have c65 := r5.head.cell 6
  simp [logCells] at c65
  have z65 := r5.head.frozen 6
  obtain ⟨i0, hi0, hz0, hz1', hz2'⟩ := info_parts info_str
  have R5 := Lib.hid r5
  clear r4 r5 B5 BQ
  go_wp2_with (at_builtin; refine wpList_append_lies _ rfl (.tmp 53) (.tmp 54) 66 rfl 0 9 i0 (.string ⟨#[]⟩) 1 16 Try.underlying66 hi0 hz0 hz1' hz2' rfl (by decide) _ _ _ rfl R5.out.rows ⟨w4.heap.size, 0, none⟩ 1 1 [.string ⟨#[]⟩] rfl rfl (World.news_of_block (heap_alloc_new w4 _)) (by simp [Value.oneCell']) (by omega) (by simp only [maxLen]; omega) (by omega) (Nat.zero_le _) _ rfl ?_)
  intro gg cap w6 hown hgrow hat hlt6
  have z66 := (hgrow.frozen_far ⟨g, 6, none⟩ lg (Ne.symm nq6)).trans z65
  have c66 := (hgrow.cell_far ⟨g, 6, none⟩ lg (Ne.symm nq6)).trans c65
  obtain ⟨r7, s7⟩ := R5.out.pushed hown hgrow (by rw [World.size_alloc]; exact hat) hlt6
  have S7 := Lib.hid ((Step.ofBelow (F := F) BQ5.out).trans s7)
  have R7 := Lib.hid r7
  clear hown hgrow hat hlt6 R5 BQ5 lg nq6 c65 z65 s7 r7 c6 hi0 hz0 hz1' hz2' e2
  go_upto_region 13 with (fail)
  clear z66 c66
  generalize w6.setCell ⟨g, 6, none⟩ (.slice (some ⟨gg, 0, none⟩) (l.secs.length + 1) cap) = w7 at *
  have r7 := R7.out
  obtain ⟨_, _, _, _, _, _, c6⟩ := r7.cells
  have cy := r7.rows.cellAt l.secs.length (by omega)
  have fy := r7.rows.frozenAt l.secs.length
  rw [show (strsV (l.secs.map bodyS ++ [(⟨#[]⟩ : ByteArray)]))[l.secs.length]? = some (.string ⟨#[]⟩) by simp [strsV]] at cy
  have hli : (l.secs.length : Int) ≤ 64 := by omega
  have g0 : (l.secs.length : Int) < (l.secs.length : Int) + 1 := by omega
  have hw1 : IntKind.i64.wrap (l.secs.length : Int) = (l.secs.length : Int) := IntWalk.i64_in _ (by omega)
  obtain ⟨r8, s8⟩ := r7.drew.stored l.secs.length t
  have hbs : (l.secs.map bodyS ++ [(⟨#[]⟩ : ByteArray)]).set l.secs.length t = (l.put r).secs.map bodyS := by
    rw [HPU.out, HTB.out]
    simp
  have hln : (l.put r).secs.length = l.secs.length + 1 := by rw [HPU.out]; simp
  have hlc : logCells gd l (.slice (some ⟨gg, 0, none⟩) (l.secs.length + 1) cap) = logCells gd (l.put r) (.slice (some ⟨gg, 0, none⟩) (l.secs.length + 1) cap) := by rw [HPU.out]; rfl
  rw [hbs] at r8
  have R8 : Hid (IsLog (w7.drew.setCell ⟨gg, l.secs.length, none⟩ (.string t)) (fun b => F b ∨ b = gg) g gd (l.put r)) := ⟨HOK.out, _, ⟨by rw [← hlc]; exact r8.head, by rw [hln]; exact r8.rows, r8.fg, r8.fv, r8.lt⟩⟩
  have S8 := Lib.hid (S7.out.trans ((Step.refl _ w7).drew.trans s8))
  clear r7 r8 s8 hbs hln hlc HPU HOK HTB R7 S7
  generalize l.secs.length = y at *
  go_still_tail 14, (by kernel_rfl)
  go_wp2
  go_ret2
  exact ⟨by rw [show ((z * 128 : Nat) : Int) = (z : Int) * 128 from by omega]; rfl, _, R8.out, S8.out⟩

set_option maxRecDepth 100000 in
set_option maxHeartbeats 8000000 in
theorem append_new2 (h : IsLog w F g gd l) (hv : IsRec w v r) (hm : May r) (hj : ¬ l.joins r) (hne : ¬ l.end_ = l.first) (hroom : l.secs.length < l.size) :
    Calls Try.prog 16 #[.pointer (some ⟨g, 0, none⟩), v] w (AppOut w F g gd (l.putAt r) 0 (l.put r)) := by
  obtain ⟨vt, vp, rfl, hl⟩ := hv
  have hput := h.1.put hm (lay_short hm)
  have hb0 : Below w.heap.size w (w.alloc (.cells (recCells r vt vp) 50)) := (Below.refl _ _).alloc (Nat.le_refl _) _
  have B0 := Blk.new w 50 (recCells r vt vp)
  have PR : Hid (Calls Try.prog 30 #[.agg (recCells r vt vp)] _ _) := print_yes ⟨vt, vp, rfl, hl.keep hb0⟩ hm
  have OP : Hid (∀ W, Below w.heap.size w W → Calls Try.prog 31 #[.pointer (some ⟨g, 0, none⟩)] W (Peeks W (.tuple #[.int .i64 l.openNo, .string (bodyS l.openRs)]))) := fun W hW => open_any (h.below hW)
  have hend : l.end_ = l.low + l.secs.length := rfl
  have ht : (⟨(lay r).toArray⟩ : ByteArray).size = (lay r).length := by simp [ByteArray.size]
  have ht2 := lay_short hm
  have htb : (⟨(lay r).toArray⟩ : ByteArray) = bodyS [r] := str_ext (by rw [bodyS_data]; simp [body])
  have hpos : 0 < l.secs.length := by have := h.1.fe; have := h.1.fl; unfold Wl.end_ at *; omega
  obtain ⟨i, x, e⟩ := Wl.snoc_of hpos
  have hlast : l.secs.getLastD [] = x := by rw [e, Wl.lastD_snoc]
  have hno : l.openNo = l.end_ - 1 := by unfold Wl.openNo; rw [if_neg hne]
  have hrs : l.openRs = x := by unfold Wl.openRs; rw [if_neg hne, hlast]
  rw [hno, hrs] at OP
  have hxs := h.1.sec x (by rw [e]; simp)
  have hx0 := body_pos hxs.2.1 hxs.1
  have hx2 := hxs.2.2
  have hov : 112 < (body x).length + (lay r).length := by
    unfold Wl.joins at hj
    rw [hlast] at hj
    have := h.1.fe
    have h2 : l.first < l.end_ := by omega
    omega
  have hu : (bodyS x).size = (body x).length := bodyS_size x
  rw [← hu] at hx0 hov hx2
  rw [← ht] at hov
  have HTB := Lib.hid htb
  have HOK := Lib.hid hput
  have HB := Lib.hid hb0
  obtain ⟨ok, vb, rr⟩ := h
  have hlen := ok.len
  have h64 := ok.s64
  have hlm := ok.lm
  have RR := Lib.hid rr
  rw [← ht] at ht2
  have hpu : l.put r = { l with secs := l.secs ++ [[r]] } := by unfold Wl.put; rw [if_neg hj, if_pos hroom]
  have hpa : l.putAt r = l.end_ * 128 := by unfold Wl.putAt; rw [if_neg hj, if_pos hroom]
  rw [hpa]
  have HPU := Lib.hid hpu
  clear hpu hpa
  generalize (⟨(lay r).toArray⟩ : ByteArray) = t at *
  generalize bodyS x = u at *
  have hz1 : ((l.end_ : Nat) : Int) = ((l.end_ - 1 : Nat) : Int) + 1 := by have := ok.l1; omega
  have hcmp : ¬ ((l.low : Int) + l.size ≤ ((l.end_ - 1 : Nat) : Int) + 1) := by omega
  have hzi : ((l.end_ - 1 : Nat) : Int) ≤ 2147483711 := by omega
  have hzl : (l.low : Int) ≤ 2147483647 := by omega
  have hzs : (l.size : Int) ≤ 64 := by omega
  have hlen2 : l.secs.length ≤ 64 := by omega
  have hu1 := toList_pos hx0
  have hsum : (112 : Int) < (u.size : Int) + t.size := by omega
  have hu112 : (u.size : Int) ≤ 112 := by omega
  have ht112 : (t.size : Int) ≤ 112 := by omega
  have hze : l.end_ * 128 = (l.end_ - 1) * 128 + 128 := by have := ok.l1; omega
  have LC := Lib.hid (rr.cells)
  clear hl hm hb0 hput ht htb hj ok rr hend hlen hlm h64 hroom hno hrs hxs hx2 hu hne hpos hlast hov hx0 e hz1
  rw [hze]
  clear hze
  generalize l.end_ - 1 = z at *
  have add : ∀ W, (Op.stringOp .add ⟨#[]⟩ t).run Try.prog W = .ok (.string t) W := fun W => by
    rw [run_string_add_sum W _ _ (by show 0 + t.size ≤ _; omega)]
    congr 2
  have HT2 := Lib.hid ht2
  clear ht2
  unfold recV
  go_enter Try.func16, Try.ntmps16
  go_wp2_with (refine wpList_load_row rfl 50 _ rfl w.heap.size rfl 50 _ (0, 0) _ B0 Try.underlying50 rfl (by kernel_rfl) ?_)
  refine PR.out.mono ?_
  rintro e w1 ⟨rfl, hb1⟩
  have HB1 := Lib.hid (below2 HB.out hb1)
  clear hb1 PR HB B0
  go_wp2_with fail
  refine (OP.out _ HB1.out).mono ?_
  rintro e w2 ⟨rfl, nd, rfl⟩
  have HB2 := Lib.hid (HB1.out.trans ((drewN_below w1 nd).mono HB1.out.size))
  clear HB1 OP
  go_upto_region 10 with (fail)
  have r2 := RR.out.below HB2.out
  clear LC
  generalize w1.drewN nd = w3 at *
  obtain ⟨va, vc, hvs⟩ := own_slice r2.rows
  subst hvs
  obtain ⟨_, _, c2, _, c4, _, c6⟩ := r2.cells
  have R2 := Lib.hid r2
  clear r2
  go_quiet (fail)
  have r4 := R2.out.below (drewN_below w3 nq)
  have BQ := Lib.hid (HB2.out.trans ((drewN_below w3 nq).mono HB2.out.size))
  have e2 := R2.out.head
  clear R2 HB2 c2 c4 c6
  go_upto_region 12 with (fail)
  generalize w3.drewN nq = w4 at *
  have B5 : Below w4.heap.size w4 (w4.alloc (.cells #[.string ⟨#[]⟩] 9)) := (Below.refl _ _).alloc (Nat.le_refl _) _
  have r5 := r4.below B5
  have BQ5 := Lib.hid (BQ.out.trans (B5.mono BQ.out.size))
  have c6 := r4.head.cell 6
  simp [logCells] at c6
  have lg := r5.head.lt
  have nq6 := r5.vg
  have c65 := r5.head.cell 6
  simp [logCells] at c65
  have z65 := r5.head.frozen 6
  obtain ⟨i0, hi0, hz0, hz1', hz2'⟩ := info_parts info_str
  have R5 := Lib.hid r5
  clear r4 r5 B5 BQ
  go_wp2_with (at_builtin; refine wpList_append_lies _ rfl (.tmp 53) (.tmp 54) 66 rfl 0 9 i0 (.string ⟨#[]⟩) 1 16 Try.underlying66 hi0 hz0 hz1' hz2' rfl (by decide) _ _ _ rfl R5.out.rows ⟨w4.heap.size, 0, none⟩ 1 1 [.string ⟨#[]⟩] rfl rfl (World.news_of_block (heap_alloc_new w4 _)) (by simp [Value.oneCell']) (by omega) (by simp only [maxLen]; omega) (by omega) (Nat.zero_le _) _ rfl ?_)
  intro gg cap w6 hown hgrow hat hlt6
  have z66 := (hgrow.frozen_far ⟨g, 6, none⟩ lg (Ne.symm nq6)).trans z65
  have c66 := (hgrow.cell_far ⟨g, 6, none⟩ lg (Ne.symm nq6)).trans c65
  obtain ⟨r7, s7⟩ := R5.out.pushed hown hgrow (by rw [World.size_alloc]; exact hat) hlt6
  have S7 := Lib.hid ((Step.ofBelow (F := F) BQ5.out).trans s7)
  have R7 := Lib.hid r7
  clear hown hgrow hat hlt6 R5 BQ5 lg nq6 c65 z65 s7 r7 c6 hi0 hz0 hz1' hz2' e2
  go_upto_region 13 with (fail)
  clear z66 c66
  generalize w6.setCell ⟨g, 6, none⟩ (.slice (some ⟨gg, 0, none⟩) (l.secs.length + 1) cap) = w7 at *
  have r7 := R7.out
  obtain ⟨_, _, _, _, _, _, c6⟩ := r7.cells
  have cy := r7.rows.cellAt l.secs.length (by omega)
  have fy := r7.rows.frozenAt l.secs.length
  rw [show (strsV (l.secs.map bodyS ++ [(⟨#[]⟩ : ByteArray)]))[l.secs.length]? = some (.string ⟨#[]⟩) by simp [strsV]] at cy
  have hli : (l.secs.length : Int) ≤ 64 := by omega
  have g0 : (l.secs.length : Int) < (l.secs.length : Int) + 1 := by omega
  have hw1 : IntKind.i64.wrap (l.secs.length : Int) = (l.secs.length : Int) := IntWalk.i64_in _ (by omega)
  obtain ⟨r8, s8⟩ := r7.drew.stored l.secs.length t
  have hbs : (l.secs.map bodyS ++ [(⟨#[]⟩ : ByteArray)]).set l.secs.length t = (l.put r).secs.map bodyS := by
    rw [HPU.out, HTB.out]
    simp
  have hln : (l.put r).secs.length = l.secs.length + 1 := by rw [HPU.out]; simp
  have hlc : logCells gd l (.slice (some ⟨gg, 0, none⟩) (l.secs.length + 1) cap) = logCells gd (l.put r) (.slice (some ⟨gg, 0, none⟩) (l.secs.length + 1) cap) := by rw [HPU.out]; rfl
  rw [hbs] at r8
  have R8 : Hid (IsLog (w7.drew.setCell ⟨gg, l.secs.length, none⟩ (.string t)) (fun b => F b ∨ b = gg) g gd (l.put r)) := ⟨HOK.out, _, ⟨by rw [← hlc]; exact r8.head, by rw [hln]; exact r8.rows, r8.fg, r8.fv, r8.lt⟩⟩
  have S8 := Lib.hid (S7.out.trans ((Step.refl _ w7).drew.trans s8))
  clear r7 r8 s8 hbs hln hlc HPU HOK HTB R7 S7
  generalize l.secs.length = y at *
  go_still_tail 14, (by kernel_rfl)
  go_wp2
  go_ret2
  exact ⟨by rw [show ((z * 128 + 128 : Nat) : Int) = ((z : Int) + 1) * 128 from by omega]; rfl, _, R8.out, S8.out⟩

set_option maxRecDepth 100000 in
set_option maxHeartbeats 8000000 in
theorem append_full1 (h : IsLog w F g gd l) (hv : IsRec w v r) (hm : May r) (hj : ¬ l.joins r) (hne : l.end_ = l.first) (hroom : ¬ l.secs.length < l.size) :
    Calls Try.prog 16 #[.pointer (some ⟨g, 0, none⟩), v] w (AppOut w F g gd (l.putAt r) 5 (l.put r)) := by
  obtain ⟨vt, vp, rfl, hl⟩ := hv
  have hput := h.1.put hm (lay_short hm)
  have hb0 : Below w.heap.size w (w.alloc (.cells (recCells r vt vp) 50)) := (Below.refl _ _).alloc (Nat.le_refl _) _
  have B0 := Blk.new w 50 (recCells r vt vp)
  have PR : Hid (Calls Try.prog 30 #[.agg (recCells r vt vp)] _ _) := print_yes ⟨vt, vp, rfl, hl.keep hb0⟩ hm
  have OP : Hid (∀ W, Below w.heap.size w W → Calls Try.prog 31 #[.pointer (some ⟨g, 0, none⟩)] W (Peeks W (.tuple #[.int .i64 l.openNo, .string (bodyS l.openRs)]))) := fun W hW => open_any (h.below hW)
  have hend : l.end_ = l.low + l.secs.length := rfl
  have ht : (⟨(lay r).toArray⟩ : ByteArray).size = (lay r).length := by simp [ByteArray.size]
  have ht2 := lay_short hm
  have htb : (⟨(lay r).toArray⟩ : ByteArray) = bodyS [r] := str_ext (by rw [bodyS_data]; simp [body])
  have hno : l.openNo = l.end_ := by unfold Wl.openNo; rw [if_pos hne]
  have hrs : l.openRs = [] := by unfold Wl.openRs; rw [if_pos hne]
  rw [hno, hrs, show bodyS [] = ⟨#[]⟩ from rfl] at OP
  have HTB := Lib.hid htb
  have HLOG := Lib.hid h
  have HOK := Lib.hid hput
  have HB := Lib.hid hb0
  obtain ⟨ok, vb, rr⟩ := h
  have hlen := ok.len
  have h64 := ok.s64
  have hlm := ok.lm
  have RR := Lib.hid rr
  rw [← ht] at ht2
  have hpu : l.put r = l := by unfold Wl.put; rw [if_neg hj, if_neg hroom]
  have hpa : l.putAt r = 0 := by unfold Wl.putAt; rw [if_neg hj, if_neg hroom]
  rw [hpa, hpu]
  clear hpu hpa
  generalize (⟨(lay r).toArray⟩ : ByteArray) = t at *
  have hzi : (l.end_ : Int) ≤ 2147483711 := by omega
  have hcmp : (l.low : Int) + l.size ≤ (l.end_ : Int) := by omega
  have hzl : (l.low : Int) ≤ 2147483647 := by omega
  have hzs : (l.size : Int) ≤ 64 := by omega
  have hlen2 : l.secs.length ≤ 64 := by omega
  have LC := Lib.hid (rr.cells)
  clear hl hm hb0 hput ht htb hj ok rr hend hlen hlm h64 hroom hno hrs hne
  generalize l.end_ = z at *
  have add : ∀ W, (Op.stringOp .add ⟨#[]⟩ t).run Try.prog W = .ok (.string t) W := fun W => by
    rw [run_string_add_sum W _ _ (by show 0 + t.size ≤ _; omega)]
    congr 2
  have HT2 := Lib.hid ht2
  clear ht2
  unfold recV
  go_enter Try.func16, Try.ntmps16
  go_wp2_with (refine wpList_load_row rfl 50 _ rfl w.heap.size rfl 50 _ (0, 0) _ B0 Try.underlying50 rfl (by kernel_rfl) ?_)
  refine PR.out.mono ?_
  rintro e w1 ⟨rfl, hb1⟩
  have HB1 := Lib.hid (below2 HB.out hb1)
  clear hb1 PR HB B0
  go_wp2_with fail
  refine (OP.out _ HB1.out).mono ?_
  rintro e w2 ⟨rfl, nd, rfl⟩
  have HB2 := Lib.hid (HB1.out.trans ((drewN_below w1 nd).mono HB1.out.size))
  clear HB1 OP
  go_upto_region 10 with (fail)
  have r2 := RR.out.below HB2.out
  clear LC
  generalize w1.drewN nd = w3 at *
  obtain ⟨va, vc, hvs⟩ := own_slice r2.rows
  subst hvs
  obtain ⟨_, _, c2, _, c4, _, c6⟩ := r2.cells
  have R2 := Lib.hid r2
  clear r2
  go_quiet (fail)
  have BQ := Lib.hid (HB2.out.trans ((drewN_below w3 nq).mono HB2.out.size))
  have LQ := Lib.hid (show IsLog w F g gd l from HLOG.out)
  go_wp2
  go_ret2
  exact ⟨rfl, F, LQ.out.below BQ.out, .ofBelow BQ.out⟩

set_option maxRecDepth 100000 in
set_option maxHeartbeats 8000000 in
theorem append_full2 (h : IsLog w F g gd l) (hv : IsRec w v r) (hm : May r) (hj : ¬ l.joins r) (hne : ¬ l.end_ = l.first) (hroom : ¬ l.secs.length < l.size) :
    Calls Try.prog 16 #[.pointer (some ⟨g, 0, none⟩), v] w (AppOut w F g gd (l.putAt r) 5 (l.put r)) := by
  obtain ⟨vt, vp, rfl, hl⟩ := hv
  have hput := h.1.put hm (lay_short hm)
  have hb0 : Below w.heap.size w (w.alloc (.cells (recCells r vt vp) 50)) := (Below.refl _ _).alloc (Nat.le_refl _) _
  have B0 := Blk.new w 50 (recCells r vt vp)
  have PR : Hid (Calls Try.prog 30 #[.agg (recCells r vt vp)] _ _) := print_yes ⟨vt, vp, rfl, hl.keep hb0⟩ hm
  have OP : Hid (∀ W, Below w.heap.size w W → Calls Try.prog 31 #[.pointer (some ⟨g, 0, none⟩)] W (Peeks W (.tuple #[.int .i64 l.openNo, .string (bodyS l.openRs)]))) := fun W hW => open_any (h.below hW)
  have hend : l.end_ = l.low + l.secs.length := rfl
  have ht : (⟨(lay r).toArray⟩ : ByteArray).size = (lay r).length := by simp [ByteArray.size]
  have ht2 := lay_short hm
  have htb : (⟨(lay r).toArray⟩ : ByteArray) = bodyS [r] := str_ext (by rw [bodyS_data]; simp [body])
  have hpos : 0 < l.secs.length := by have := h.1.fe; have := h.1.fl; unfold Wl.end_ at *; omega
  obtain ⟨i, x, e⟩ := Wl.snoc_of hpos
  have hlast : l.secs.getLastD [] = x := by rw [e, Wl.lastD_snoc]
  have hno : l.openNo = l.end_ - 1 := by unfold Wl.openNo; rw [if_neg hne]
  have hrs : l.openRs = x := by unfold Wl.openRs; rw [if_neg hne, hlast]
  rw [hno, hrs] at OP
  have hxs := h.1.sec x (by rw [e]; simp)
  have hx0 := body_pos hxs.2.1 hxs.1
  have hx2 := hxs.2.2
  have hov : 112 < (body x).length + (lay r).length := by
    unfold Wl.joins at hj
    rw [hlast] at hj
    have := h.1.fe
    have h2 : l.first < l.end_ := by omega
    omega
  have hu : (bodyS x).size = (body x).length := bodyS_size x
  rw [← hu] at hx0 hov hx2
  rw [← ht] at hov
  have HTB := Lib.hid htb
  have HLOG := Lib.hid h
  have HOK := Lib.hid hput
  have HB := Lib.hid hb0
  obtain ⟨ok, vb, rr⟩ := h
  have hlen := ok.len
  have h64 := ok.s64
  have hlm := ok.lm
  have RR := Lib.hid rr
  rw [← ht] at ht2
  have hpu : l.put r = l := by unfold Wl.put; rw [if_neg hj, if_neg hroom]
  have hpa : l.putAt r = 0 := by unfold Wl.putAt; rw [if_neg hj, if_neg hroom]
  rw [hpa, hpu]
  clear hpu hpa
  generalize (⟨(lay r).toArray⟩ : ByteArray) = t at *
  generalize bodyS x = u at *
  have hz1 : ((l.end_ : Nat) : Int) = ((l.end_ - 1 : Nat) : Int) + 1 := by have := ok.l1; omega
  have hcmp : (l.low : Int) + l.size ≤ ((l.end_ - 1 : Nat) : Int) + 1 := by omega
  have hzi : ((l.end_ - 1 : Nat) : Int) ≤ 2147483711 := by omega
  have hzl : (l.low : Int) ≤ 2147483647 := by omega
  have hzs : (l.size : Int) ≤ 64 := by omega
  have hlen2 : l.secs.length ≤ 64 := by omega
  have hu1 := toList_pos hx0
  have hsum : (112 : Int) < (u.size : Int) + t.size := by omega
  have hu112 : (u.size : Int) ≤ 112 := by omega
  have ht112 : (t.size : Int) ≤ 112 := by omega
  have hze : l.end_ * 128 = (l.end_ - 1) * 128 + 128 := by have := ok.l1; omega
  have LC := Lib.hid (rr.cells)
  clear hl hm hb0 hput ht htb hj ok rr hend hlen hlm h64 hroom hno hrs hxs hx2 hu hne hpos hlast hov hx0 e hz1
  clear hze
  generalize l.end_ - 1 = z at *
  have add : ∀ W, (Op.stringOp .add ⟨#[]⟩ t).run Try.prog W = .ok (.string t) W := fun W => by
    rw [run_string_add_sum W _ _ (by show 0 + t.size ≤ _; omega)]
    congr 2
  have HT2 := Lib.hid ht2
  clear ht2
  unfold recV
  go_enter Try.func16, Try.ntmps16
  go_wp2_with (refine wpList_load_row rfl 50 _ rfl w.heap.size rfl 50 _ (0, 0) _ B0 Try.underlying50 rfl (by kernel_rfl) ?_)
  refine PR.out.mono ?_
  rintro e w1 ⟨rfl, hb1⟩
  have HB1 := Lib.hid (below2 HB.out hb1)
  clear hb1 PR HB B0
  go_wp2_with fail
  refine (OP.out _ HB1.out).mono ?_
  rintro e w2 ⟨rfl, nd, rfl⟩
  have HB2 := Lib.hid (HB1.out.trans ((drewN_below w1 nd).mono HB1.out.size))
  clear HB1 OP
  go_upto_region 10 with (fail)
  have r2 := RR.out.below HB2.out
  clear LC
  generalize w1.drewN nd = w3 at *
  obtain ⟨va, vc, hvs⟩ := own_slice r2.rows
  subst hvs
  obtain ⟨_, _, c2, _, c4, _, c6⟩ := r2.cells
  have R2 := Lib.hid r2
  clear r2
  go_quiet (fail)
  have BQ := Lib.hid (HB2.out.trans ((drewN_below w3 nq).mono HB2.out.size))
  have LQ := Lib.hid (show IsLog w F g gd l from HLOG.out)
  go_wp2
  go_ret2
  exact ⟨rfl, F, LQ.out.below BQ.out, .ofBelow BQ.out⟩
end
end Go.Proofs.Ytpcfhpffbogjmaa

/- Package wal: a log and its disk; a sector is written. -/
namespace Go.Proofs.Ytpcfhpffbogjmaa
open Go.RowKit

/-- A disk, and a log over it. -/
structure Sys (w : World) (FD FL : Foot) (g gd : Nat) (D : Dk) (l : Wl) : Prop where
  disk : IsDisk w FD gd D
  log : IsLog w FL g gd l
  apart : ∀ b, FD b → ¬ FL b
/-- What may have been written: of the disk's blocks, or the log's. -/
abbrev Both (FD FL : Foot) : Foot := fun b => FD b ∨ FL b
namespace Sys
variable {w w' : World} {FD FD' FL FL' : Foot} {g gd : Nat} {D D' : Dk} {l l' : Wl}
theorem more (h : Sys w FD FL g gd D l) (hb : Below w.heap.size w w') : Sys w' FD FL g gd D l := ⟨h.disk.below hb, h.log.below hb, h.apart⟩
theorem onDisk (h : Sys w FD FL g gd D l) (hd : IsDisk w' FD' gd D') (hs : Step FD FD' w w') : Sys w' FD' FL g gd D' l ∧ Step (Both FD FL) (Both FD' FL) w w' := by
  refine ⟨⟨hd, ⟨h.log.1, h.log.2.elim fun vb r => ⟨vb, r.keep (fun b hb => hs.block b (r.lt b hb) fun e => h.apart b e hb) hs.size⟩⟩, fun b hb hl => ?_⟩, ⟨hs.os, hs.tape, hs.output, hs.size, fun b hb hf => hs.block b hb fun e => hf (.inl e), fun b hb => ?_⟩⟩
  · rcases hs.foot b hb with hb | hb
    · exact h.apart b hb hl
    · have := h.log.lt b hl; omega
  · rcases hb with hb | hb
    · exact (hs.foot b hb).elim (fun e => .inl (.inl e)) .inr
    · exact .inl (.inr hb)
theorem onLog (h : Sys w FD FL g gd D l) (hd : IsLog w' FL' g gd l') (hs : Step FL FL' w w') : Sys w' FD FL' g gd D l' ∧ Step (Both FD FL) (Both FD FL') w w' := by
  refine ⟨⟨⟨h.disk.1, h.disk.2.elim fun vs h1 => h1.elim fun vq h2 => h2.elim fun m r => ⟨vs, vq, m, r.keep (fun b hb => hs.block b (r.lt b hb) (h.apart b hb)) hs.size⟩⟩, hd, fun b hb hl => ?_⟩, ⟨hs.os, hs.tape, hs.output, hs.size, fun b hb hf => hs.block b hb fun e => hf (.inr e), fun b hb => ?_⟩⟩
  · rcases hs.foot b hl with hl | hl
    · exact h.apart b hb hl
    · have := h.disk.lt b hb; omega
  · rcases hb with hb | hb
    · exact .inl (.inl hb)
    · exact (hs.foot b hb).elim (fun e => .inl (.inr e)) .inr
end Sys
/-- Where a sector lies; what it is written as. -/
def Wl.place (l : Wl) (k : Nat) : Nat := l.base + k % l.size
def Wl.sector (l : Wl) (k : Nat) : ByteArray := packed l.epoch k (bodyS (l.secs.getD (k - l.low) []))

section
variable {w : World} {FD FL : Foot} {g gd : Nat} {D : Dk} {l : Wl}
set_option maxRecDepth 100000 in
set_option maxHeartbeats 8000000 in
theorem lwrite_any (h : Sys w FD FL g gd D l) (k : Nat) (h1 : l.low ≤ k) (h2 : k < l.end_) (he : l.epoch < 4294967296) (hw : D.waits.length < 16777216) :
    Calls Try.prog 33 #[.pointer (some ⟨g, 0, none⟩), .int .i64 k] w fun e w' => e = .returned (.int .i64 (D.writeE (l.place k) (l.sector k))) ∧ ∃ FD', Sys w' FD' FL g gd (D.write (l.place k) (l.sector k)) l ∧ Step (Both FD FL) (Both FD' FL) w w' := by
  have HS := Lib.hid h
  obtain ⟨ok, vb, r⟩ := h.log
  have hlm := ok.lm
  have h64 := ok.s64
  have hlen := ok.len
  have hkl : k - l.low < l.secs.length := by unfold Wl.end_ at h2; omega
  have hk32 : k < 4294967296 := by unfold Wl.end_ at h2; omega
  have hbd : (bodyS (l.secs.getD (k - l.low) [])).size ≤ 112 := by
    have hmem : l.secs.getD (k - l.low) [] ∈ l.secs := by
      rw [List.getD_eq_getElem?_getD, List.getElem?_eq_getElem hkl]
      exact List.getElem_mem hkl
    rw [bodyS_size]
    exact (ok.sec _ hmem).2.2
  have PK := Lib.hid (fun W => pack_c l.epoch k (bodyS (l.secs.getD (k - l.low) [])) W he hk32 hbd)
  have PL : Hid (∀ W, Below w.heap.size w W → Calls Try.prog 51 #[.pointer (some ⟨g, 0, none⟩), .int .i64 k] W (Peeks W (.int .i64 (l.place k)))) := fun W hW => place_any (h.log.below hW).zero k (by omega)
  have WR : Hid (∀ W, Below w.heap.size w W → Calls Try.prog 50 #[.pointer (some ⟨gd, 0, none⟩), .int .i64 (l.place k), .string (l.sector k)] W fun e w' => e = .returned (.int .i64 (D.writeE (l.place k) (l.sector k))) ∧ ∃ FD', IsDisk w' FD' gd (D.write (l.place k) (l.sector k)) ∧ Step FD FD' W w') :=
    fun W hW => write_any (h.disk.below hW) _ _ hw
  have hsec : l.sector k = packed l.epoch k (bodyS (l.secs.getD (k - l.low) [])) := rfl
  rw [← hsec] at PK
  obtain ⟨g2, cap, rfl, hcap, hcm⟩ := own_form r.rows (by omega)
  have cl : w.cell? ⟨g2, k - l.low, none⟩ = some (.string (bodyS (l.secs.getD (k - l.low) []))) := by
    rw [r.rows.cellAt _ (by omega)]
    simp only [strsV, List.map_map, List.getElem?_map]
    rw [List.getD_eq_getElem?_getD, List.getElem?_eq_getElem hkl]
    rfl
  have hsub : ((k - l.low : Nat) : Int) = (k : Int) - (l.low : Int) := by omega
  have hg2 : g2 < w.heap.size := (r.rows.lt g2 rfl).2
  have CELLS : Hid (∀ W, Below w.heap.size w W → W.cell? ⟨g, 0, none⟩ = some (.pointer (some ⟨gd, 0, none⟩)) ∧ W.cell? ⟨g, 3, none⟩ = some (.int .i64 l.epoch) ∧ W.cell? ⟨g, 4, none⟩ = some (.int .i64 l.low) ∧ W.cell? ⟨g, 6, none⟩ = some (.slice (some ⟨g2, 0, none⟩) l.secs.length cap) ∧ W.cell? ⟨g2, k - l.low, none⟩ = some (.string (bodyS (l.secs.getD (k - l.low) [])))) :=
    fun W hW => ⟨(r.below hW).cells.1, (r.below hW).cells.2.2.2.1, (r.below hW).cells.2.2.2.2.1, (r.below hW).cells.2.2.2.2.2.2, (hW.cell (p := ⟨g2, k - l.low, none⟩) hg2).trans cl⟩
  have hep : (l.epoch : Int) ≤ 4294967295 := by omega
  have hep2 : (l.epoch : Int) % 4294967296 = l.epoch := by omega
  have hk2 : (k : Int) % 4294967296 = k := by omega
  have hkb : (k : Int) < 4294967296 := by omega
  have hidx : (k : Int) - (l.low : Int) < l.secs.length := by omega
  have hidx0 : (0 : Int) ≤ (k : Int) - (l.low : Int) := by omega
  have c3 := r.cells.2.2.2.1
  have htn : ((k : Int) - (l.low : Int)).toNat = k - l.low := by omega
  clear hsec cl hbd hkl ok r hcap hcm hg2 h hlen h64 hlm he hk32 hw hsub
  generalize bodyS (l.secs.getD (k - l.low) []) = b at *
  generalize l.sector k = s at *
  generalize l.place k = p at *
  generalize D.write p s = D1 at *
  generalize D.writeE p s = er at *
  go_enter Try.func33, Try.ntmps33
  go_wp2_with fail
  clear c3
  refine' wp_region_conf 22 (.is _ :: .is _ :: .is _ :: .is _ :: .is _ :: .is _ :: .is _ :: .is _ :: .is _ :: .is _ :: .is _ :: .is _ :: .is _ :: .is _ :: .is _ :: .is _ :: .is _ :: .is _ :: .is _ :: .is _ :: .is _ :: .is _ :: []) (by kernel_rfl) (by kernel_rfl) (by kernel_rfl) (by kernel_rfl) rfl ?main
  case main =>
    iterate 22
      refine obs_is (fun w4 hE4 _ => ?_) ?_
      · obtain ⟨d0, d3, d4, d6, db⟩ := CELLS.out w4 ((Below.refl w.heap.size w).drew.trans hE4)
        go_wp2_with (go_at_call 49; refine (PK.out _).mono ?_; rintro e w5 ⟨rfl, hb5⟩)
        first | exact post_is hb5 | exact post_is (Below.refl _ _)
      simp only [Act.put, List.setIfInBounds_toArray, List.set_cons_zero, List.set_cons_succ]
    refine obs_end fun w3 hE3 _ => ?_
    have HB := Lib.hid ((Below.refl w.heap.size w).drew.trans hE3)
    clear hE3
    change wpList _ _ _ _ _ _
    go_wp2_with fail
    refine' wp_region_conf 8 (.is _ :: .is _ :: .is _ :: .is _ :: .is _ :: .is _ :: .is _ :: .is _ :: []) (by kernel_rfl) (by kernel_rfl) (by kernel_rfl) (by kernel_rfl) rfl ?main
    case main =>
      iterate 8
        refine obs_is (fun w4 hE4 _ => ?_) ?_
        · have hb4 := HB.out.trans (((Below.refl w3.heap.size w3).drew.trans hE4).mono HB.out.size)
          obtain ⟨d0, _⟩ := CELLS.out w4 hb4
          go_wp2_with (go_at_call 51; refine (PL.out _ hb4).mono ?_; rintro e w5 ⟨rfl, nq, rfl⟩)
          first | exact post_is (drewN_below _ _) | exact post_is (Below.refl _ _)
        simp only [Act.put, List.setIfInBounds_toArray, List.set_cons_zero, List.set_cons_succ]
      refine obs_end fun w6 hE6 _ => ?_
      have hb6 := HB.out.trans (((Below.refl w3.heap.size w3).drew.trans hE6).mono HB.out.size)
      have HB6 := Lib.hid hb6
      clear hE6 hb6
      change wpList _ _ _ _ _ _
      go_wp2_with fail
      refine (WR.out _ HB6.out).mono ?_
      rintro e w7 ⟨rfl, FD', hd, hs⟩
      have FIN := Lib.hid ((HS.out.more HB6.out).onDisk hd hs)
      have BB := Lib.hid ((Step.ofBelow (F := Both FD FL) HB6.out).trans FIN.out.2)
      clear hd hs
      go_wp2
      go_ret
      exact ⟨rfl, FD', FIN.out.1, BB.out⟩
end
end Go.Proofs.Ytpcfhpffbogjmaa

/- Package wal: Flush. -/
namespace Go.Proofs.Ytpcfhpffbogjmaa
open Go.RowKit

/-- So many sectors are written, one behind the other, as far as the disk bears it. -/
def Wl.writes (l : Wl) : Dk → Nat → Nat → Dk × Nat
  | D, _, 0 => (D, 0)
  | D, k, n + 1 => if D.writeE (l.place k) (l.sector k) = 0 then l.writes (D.write (l.place k) (l.sector k)) (k + 1) n else (D.write (l.place k) (l.sector k), D.writeE (l.place k) (l.sector k))
def Wl.flush (l : Wl) (D : Dk) : Dk × Wl × Nat :=
  if l.end_ = l.first then (D, l, 0)
  else if (l.writes D l.first (l.end_ - l.first)).2 ≠ 0 then ((l.writes D l.first (l.end_ - l.first)).1, l, (l.writes D l.first (l.end_ - l.first)).2)
  else if (l.writes D l.first (l.end_ - l.first)).1.syncE ≠ 0 then ((l.writes D l.first (l.end_ - l.first)).1.sync, l, (l.writes D l.first (l.end_ - l.first)).1.syncE)
  else ((l.writes D l.first (l.end_ - l.first)).1.sync, { l with first := l.end_ }, 0)
theorem Dk.write_waits (D : Dk) (i : Int) (s : ByteArray) : (D.write i s).waits.length ≤ D.waits.length + 1 := by
  unfold Dk.write
  split
  · split
    · split
      · simp
      · simp [Dk.burn_waits]
    · omega
  · omega
theorem Wl.Ok.flushed {l : Wl} (h : l.Ok) : ({ l with first := l.end_ } : Wl).Ok :=
  ⟨h.s8, h.s64, h.b0, h.l1, h.lm, Nat.le_trans h.fl h.fe, Nat.le_refl _, h.len, h.sec, h.e1, h.em⟩
theorem LogR.setFirst {w : World} {F : Foot} {g gd : Nat} {l : Wl} {vb : Value} {n : Nat} {bs : List ByteArray} (h : LogR w F g gd l vb n bs) (x : Nat) :
    LogR (w.setCell ⟨g, 5, none⟩ (.int .i64 x)) F g gd { l with first := x } vb n bs ∧ Step F F w (w.setCell ⟨g, 5, none⟩ (.int .i64 x)) :=
  ⟨⟨h.head.set 5 _, own_keep h.rows fun b hb => heap_setCell_other w ⟨g, 5, none⟩ b _ fun e => h.vg (by rw [hb, e]), h.fg, h.fv, fun b hb => by simpa [World.setCell] using h.lt b hb⟩, (Step.refl F w).set (p := ⟨g, 5, none⟩) h.fg _⟩

/-- What a flush comes to. -/
def FlushOut (w : World) (FD FL : Foot) (g gd : Nat) (x : Dk × Wl × Nat) (e : Ending) (w' : World) : Prop :=
  e = .returned (.int .i64 x.2.2) ∧ ∃ FD', Sys w' FD' FL g gd x.1 x.2.1 ∧ Step (Both FD FL) (Both FD' FL) w w'
section
variable {w : World} {FD FL : Foot} {g gd : Nat} {D : Dk} {l : Wl}
set_option maxRecDepth 100000 in
set_option maxHeartbeats 2000000 in
theorem flush_idle (h : Sys w FD FL g gd D l) (he : l.end_ = l.first) :
    Calls Try.prog 17 #[.pointer (some ⟨g, 0, none⟩)] w (FlushOut w FD FL g gd (D, l, 0)) := by
  have HS := Lib.hid h
  have H1 := Lib.hid (end_any h.log)
  obtain ⟨ok, vb, r⟩ := h.log
  have c5 := r.cells.2.2.2.2.2.1
  rw [← he] at c5
  clear r ok h he
  generalize l.end_ = x at *
  go_enter Try.func17, Try.ntmps17
  go_wp2_with fail
  refine H1.out.mono ?_
  rintro e w1 ⟨rfl, n, rfl⟩
  go_wp2
  go_ret
  exact ⟨rfl, FD, HS.out.more (drewN_below w n), .ofBelow (drewN_below w n)⟩

set_option maxRecDepth 100000 in
set_option maxHeartbeats 8000000 in
theorem flush_go (h : Sys w FD FL g gd D l) (hne : ¬ l.end_ = l.first) (hep : l.epoch < 4294967296) (hw : D.waits.length ≤ 1000000) :
    Calls Try.prog 17 #[.pointer (some ⟨g, 0, none⟩)] w (FlushOut w FD FL g gd (l.flush D)) := by
  have hfl : l.flush D = if (l.writes D l.first (l.end_ - l.first)).2 ≠ 0 then ((l.writes D l.first (l.end_ - l.first)).1, l, (l.writes D l.first (l.end_ - l.first)).2) else if (l.writes D l.first (l.end_ - l.first)).1.syncE ≠ 0 then ((l.writes D l.first (l.end_ - l.first)).1.sync, l, (l.writes D l.first (l.end_ - l.first)).1.syncE) else ((l.writes D l.first (l.end_ - l.first)).1.sync, { l with first := l.end_ }, 0) := by
    unfold Wl.flush; rw [if_neg hne]
  have HFL := Lib.hid hfl
  have HS := Lib.hid h
  have H1 := Lib.hid (end_any h.log)
  obtain ⟨ok, vb, r⟩ := h.log
  have OK := Lib.hid ok
  have c5 := r.cells.2.2.2.2.2.1
  have hfe := ok.fe
  have hfe2 : l.end_ ≤ l.first + 64 := by have := ok.fl; have := ok.len; have := ok.s64; unfold Wl.end_; omega
  have hem : (l.end_ : Int) ≤ 2147483711 := by have := ok.lm; have := ok.len; have := ok.s64; unfold Wl.end_; omega
  have hb : ((l.end_ : Int) == l.first) = false := by simp; omega
  have WR : Hid (∀ W FD1 D1 k, Sys W FD1 FL g gd D1 l → l.first ≤ k → k < l.end_ → D1.waits.length < 16777216 → _) := fun W FD1 D1 k hS h1 h2 h3 => lwrite_any hS k (Nat.le_trans ok.fl h1) h2 hep h3
  have hle : l.first < l.end_ := by omega
  clear hfl r ok h hne
  generalize hx : l.end_ = x at *
  have HX := Lib.hid hx
  clear hx
  go_enter Try.func17, Try.ntmps17
  go_wp2_with fail
  refine H1.out.mono ?_
  rintro e w1 ⟨rfl, n, rfl⟩
  go_wp2_with fail
  have S0 := Lib.hid (HS.out.more (drewN_below w n))
  have Q0 := Lib.hid (Step.ofBelow (F := Both FD FL) (drewN_below w n))
  clear HS H1 c5
  generalize w.drewN n = w0 at *
  generalize hf : l.first = f at *
  have HF := Lib.hid hf
  clear hf
  go_loopw [4] (fun vk wr => ∃ (k : Nat) (D1 : Dk) (FD1 : Foot), vk = .int .i64 k ∧ f ≤ k ∧ k ≤ x ∧ Sys wr FD1 FL g gd D1 l ∧ Step (Both FD FL) (Both FD1 FL) w wr ∧ l.writes D f (x - f) = l.writes D1 k (x - k) ∧ D1.waits.length ≤ 1000000 + (k - f)) (fun vk _ => x - (intOf vk).toNat)
  case atStart => exact ⟨f, D, FD, rfl, Nat.le_refl _, Nat.le_of_lt hle, S0.out, Q0.out, rfl, by omega⟩
  case round =>
    obtain ⟨k, D1, FD1, rfl, hk1, hk2, hS, hQ, hwr, hwl⟩ := hrel
    have SS := Lib.hid hS
    have QQ := Lib.hid hQ
    have HWR := Lib.hid hwr
    clear hS hQ hwr S0 Q0
    by_cases hlt : k < x
    · have CW := Lib.hid (WR.out _ _ _ k SS.out hk1 hlt (by omega))
      have hxk : x - k = (x - (k + 1)) + 1 := by omega
      have hw1 := Dk.write_waits D1 (l.place k) (l.sector k)
      have HXK := Lib.hid hxk
      clear hxk
      by_cases her : D1.writeE (l.place k) (l.sector k) = 0
      · have hnx : l.writes D f (x - f) = l.writes (D1.write (l.place k) (l.sector k)) (k + 1) (x - (k + 1)) := by
          rw [HWR.out, HXK.out, Wl.writes, if_pos her]
        have HNX := Lib.hid hnx
        rw [her] at CW
        clear hnx HWR her
        generalize D1.write (l.place k) (l.sector k) = D2 at *
        go_wp2_with fail
        refine CW.out.mono ?_
        rintro e w2 ⟨rfl, FD2, hs2, hst⟩
        have S2 := Lib.hid hs2
        have Q2 := Lib.hid (QQ.out.trans hst)
        clear hs2 hst CW SS QQ
        go_wp2
        go_roundw
        case rel => exact ⟨k + 1, D2, FD2, by go_num, by omega, by omega, S2.out, Q2.out, HNX.out, by omega⟩
        case measure => simp [intOf]; omega
      · have hnx : l.writes D f (x - f) = (D1.write (l.place k) (l.sector k), D1.writeE (l.place k) (l.sector k)) := by
          rw [HWR.out, HXK.out, Wl.writes, if_neg her]
        have hfin : l.flush D = (D1.write (l.place k) (l.sector k), l, D1.writeE (l.place k) (l.sector k)) := by
          rw [HFL.out, hnx, if_pos her]
        have HFIN := Lib.hid hfin
        have hne : (((D1.writeE (l.place k) (l.sector k) : Nat) : Int) != 0) = true := by simp; omega
        clear hnx hfin HWR her HFL
        generalize D1.write (l.place k) (l.sector k) = D2 at *
        generalize D1.writeE (l.place k) (l.sector k) = er at *
        go_wp2_with fail
        refine CW.out.mono ?_
        rintro e w2 ⟨rfl, FD2, hs2, hst⟩
        have S2 := Lib.hid hs2
        have Q2 := Lib.hid (QQ.out.trans hst)
        clear hs2 hst CW SS QQ
        go_wp2
        go_ret
        rw [HFIN.out]
        exact ⟨rfl, FD2, S2.out, Q2.out⟩
    · obtain rfl : k = x := by omega
      have hdone : l.writes D f (k - f) = (D1, 0) := by rw [HWR.out, Nat.sub_self]; rfl
      have hfin : l.flush D = if D1.syncE ≠ 0 then (D1.sync, l, D1.syncE) else (D1.sync, { l with first := k }, 0) := by
        rw [HFL.out, hdone]; rw [if_neg (by simp)]
      have HFIN := Lib.hid hfin
      have SY := Lib.hid (sync_any SS.out.disk)
      have c0 := SS.out.log.2.choose_spec.cells.1
      clear hdone hfin HWR HFL WR
      by_cases her : D1.syncE = 0
      · have hf2 : l.flush D = (D1.sync, { l with first := k }, 0) := by rw [HFIN.out, if_neg (by omega)]
        have HF2 := Lib.hid hf2
        rw [her] at SY
        clear hf2 HFIN her
        go_wp2_with fail
        refine SY.out.mono ?_
        rintro e w2 ⟨rfl, hd, hs⟩
        obtain ⟨hs2, hst⟩ := SS.out.onDisk hd hs
        obtain ⟨_, vb2, r2⟩ := hs2.log
        have c5 := r2.cells.2.2.2.2.2.1
        have z5 := r2.head.frozen 5
        obtain ⟨r3, s3⟩ := r2.setFirst k
        have hlog : IsLog (w2.setCell ⟨g, 5, none⟩ (.int .i64 k)) FL g gd { l with first := k } := by
          have := OK.out.flushed
          rw [HX.out] at this
          exact ⟨this, vb2, r3⟩
        obtain ⟨S3, Q3⟩ := hs2.onLog hlog s3
        have SS3 := Lib.hid S3
        have QQ3 := Lib.hid (QQ.out.trans (hst.trans Q3))
        clear S3 Q3 hlog r3 s3 r2 hs2 hst hd hs SS QQ c0
        go_wp2
        go_ret
        rw [HF2.out]
        exact ⟨rfl, FD1, SS3.out, QQ3.out⟩
      · have hf2 : l.flush D = (D1.sync, l, D1.syncE) := by rw [HFIN.out, if_pos her]
        have HF2 := Lib.hid hf2
        have hne : (((D1.syncE : Nat) : Int) != 0) = true := by simp; omega
        clear hf2 HFIN her
        generalize D1.syncE = er at *
        go_wp2_with fail
        refine SY.out.mono ?_
        rintro e w2 ⟨rfl, hd, hs⟩
        obtain ⟨hs2, hst⟩ := SS.out.onDisk hd hs
        have SS3 := Lib.hid hs2
        have QQ3 := Lib.hid (QQ.out.trans hst)
        clear hs2 hst hd hs SS QQ c0
        go_wp2
        go_ret
        rw [HF2.out]
        exact ⟨rfl, FD1, SS3.out, QQ3.out⟩
theorem flush_any (h : Sys w FD FL g gd D l) (hep : l.epoch < 4294967296) (hw : D.waits.length ≤ 1000000) :
    Calls Try.prog 17 #[.pointer (some ⟨g, 0, none⟩)] w (FlushOut w FD FL g gd (l.flush D)) := by
  by_cases he : l.end_ = l.first
  · have e : l.flush D = (D, l, 0) := by unfold Wl.flush; rw [if_pos he]
    rw [e]
    exact flush_idle h he
  · exact flush_go h he hep hw
end
end Go.Proofs.Ytpcfhpffbogjmaa
