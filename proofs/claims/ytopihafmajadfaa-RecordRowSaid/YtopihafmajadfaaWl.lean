/- A log as the document tells it: plain mathematics. -/
import Derived.Test.YtopihafmajadfaaEntP
import Derived.Test.YtopihafmajadfaaDk
import Derived.Test.YtopihafmajadfaaSlabGm
namespace Go.Proofs.Ytopihafmajadfaa
open Go.RowKit

/-- The records that stand in a text: what was read is laid so. -/
theorem allL_some : ∀ (n : Nat) (at_ : Int) (l : List UInt8) (es : List Ent), allL n at_ l = some es → l = (es.map Prod.snd).flatMap lay ∧ es = entsOf at_ (es.map Prod.snd) ∧ ∀ r ∈ es.map Prod.snd, May r
  | n, at_, [], es, h => by
    have : es = [] := by cases n <;> simp [allL] at h <;> exact h
    subst this
    exact ⟨rfl, rfl, fun r hr => by simp at hr⟩
  | 0, _, _ :: _, es, h => by simp [allL] at h
  | n + 1, at_, b :: l, es, h => by
    cases hp : recP (b :: l) with
    | none => rw [allL_stop (by simp) hp] at h; cases h
    | some x =>
      have hx : recP (b :: l) = some (x.1, x.2) := hp
      obtain ⟨hm, hl⟩ := recP_some hx
      rw [allL_step hx] at h
      cases hr : allL n (at_ + ((b :: l).length : Int) - (x.2.length : Int)) x.2 with
      | none => rw [hr] at h; cases h
      | some fs =>
        rw [hr] at h
        simp only [Option.map_some, Option.some.injEq] at h
        subst h
        obtain ⟨h1, h2, h3⟩ := allL_some n _ x.2 fs hr
        refine ⟨?_, ?_, fun r hr => ?_⟩
        · rw [List.map_cons, List.flatMap_cons, ← h1]; exact hl
        · show (at_, x.1) :: fs = (at_, x.1) :: entsOf (at_ + (lay x.1).length) (fs.map Prod.snd)
          have e : at_ + ((b :: l).length : Int) - (x.2.length : Int) = at_ + (lay x.1).length := by rw [hl]; simp; omega
          rw [e] at h2
          rw [← h2]
        · rw [List.map_cons, List.mem_cons] at hr
          rcases hr with rfl | hr
          · exact hm
          · exact h3 r hr
theorem entsOf_snd : ∀ (at_ : Int) (rs : List Rc), (entsOf at_ rs).map Prod.snd = rs
  | _, [] => rfl
  | at_, r :: rs => by show r :: (entsOf _ rs).map Prod.snd = _; rw [entsOf_snd]
theorem entsOf_shift : ∀ (at_ d : Int) (rs : List Rc), (entsOf at_ rs).map (fun x => (x.1 + d, x.2)) = entsOf (at_ + d) rs
  | _, _, [] => rfl
  | at_, d, r :: rs => by
    show (at_ + d, r) :: (entsOf (at_ + (lay r).length) rs).map _ = (at_ + d, r) :: entsOf (at_ + d + (lay r).length) rs
    rw [entsOf_shift, show at_ + (lay r).length + d = at_ + d + (lay r).length by omega]
theorem entsOf_app : ∀ (at_ : Int) (rs qs : List Rc), entsOf at_ (rs ++ qs) = entsOf at_ rs ++ entsOf (at_ + (rs.flatMap lay).length) qs
  | at_, [], qs => by simp [entsOf]
  | at_, r :: rs, qs => by
    show (at_, r) :: entsOf _ (rs ++ qs) = _
    rw [entsOf_app]
    simp only [List.flatMap_cons, List.length_append, entsOf, List.cons_append]
    rw [show at_ + ((lay r).length : Int) + ((rs.flatMap lay).length : Int) = at_ + (((lay r).length + (rs.flatMap lay).length : Nat) : Int) by omega]
theorem entsOf_ge : ∀ (at_ : Int) (rs : List Rc), (∀ r ∈ rs, May r) → ∀ x ∈ entsOf at_ rs, at_ ≤ x.1 ∧ x.1 < at_ + (rs.flatMap lay).length
  | _, [], _, x, h => by simp [entsOf] at h
  | at_, r :: rs, hm, x, h => by
    have hp := lay_pos (hm r (by simp))
    rw [List.flatMap_cons, List.length_append]
    rcases List.mem_cons.1 h with rfl | h
    · exact ⟨Int.le_refl _, by simp only; omega⟩
    · have := entsOf_ge _ rs (fun q hq => hm q (by simp [hq])) x h
      omega

/-- A sector's records, as bytes and as a text. -/
def body (rs : List Rc) : List UInt8 := rs.flatMap lay
def bodyS (rs : List Rc) : ByteArray := ⟨(body rs).toArray⟩
theorem bodyS_data (rs : List Rc) : (bodyS rs).data.toList = body rs := rfl
theorem bodyS_size (rs : List Rc) : (bodyS rs).size = (body rs).length := by simp [bodyS, ByteArray.size]
theorem body_snoc (rs : List Rc) (r : Rc) : body (rs ++ [r]) = body rs ++ lay r := by simp [body]
theorem body_pos {rs : List Rc} (hm : ∀ r ∈ rs, May r) (hne : rs ≠ []) : 0 < (body rs).length := by
  cases rs with
  | nil => exact absurd rfl hne
  | cons r rs =>
    have := lay_pos (hm r (by simp))
    simp only [body, List.flatMap_cons, List.length_append]
    omega
theorem allS_body {rs : List Rc} (hm : ∀ r ∈ rs, May r) : allL (bodyS rs).data.toList.length 0 (bodyS rs).data.toList = some (entsOf 0 rs) := allL_lay rs hm _ 0 (Nat.le_refl _)
/-- The records of a text that is all records. -/
def recsOf (b : ByteArray) : List Rc := ((allL b.data.toList.length 0 b.data.toList).getD []).map Prod.snd
theorem recsOf_body {rs : List Rc} (hm : ∀ r ∈ rs, May r) : recsOf (bodyS rs) = rs := by
  unfold recsOf
  rw [allS_body hm]
  exact entsOf_snd 0 rs
theorem body_recs {b : ByteArray} (h : (allL b.data.toList.length 0 b.data.toList).isSome = true) : bodyS (recsOf b) = b ∧ ∀ r ∈ recsOf b, May r := by
  obtain ⟨es, he⟩ := Option.isSome_iff_exists.1 h
  obtain ⟨h1, h2, h3⟩ := allL_some _ _ _ _ he
  unfold recsOf
  rw [he]
  exact ⟨str_ext (by rw [bodyS_data]; exact h1.symm), h3⟩

/-- A log: its sectors from low on that have records. -/
structure Wl where
  base : Nat
  size : Nat
  epoch : Nat
  low : Nat
  first : Nat
  secs : List (List Rc)
namespace Wl
def end_ (l : Wl) : Nat := l.low + l.secs.length
structure Ok (l : Wl) : Prop where
  s8 : 8 ≤ l.size
  s64 : l.size ≤ 64
  b0 : l.base + l.size ≤ 512
  l1 : 1 ≤ l.low
  lm : l.low ≤ 2147483647
  fl : l.low ≤ l.first
  fe : l.first ≤ l.end_
  len : l.secs.length ≤ l.size
  sec : ∀ rs ∈ l.secs, rs ≠ [] ∧ (∀ r ∈ rs, May r) ∧ (body rs).length ≤ 112
  e1 : 1 ≤ l.epoch
  em : l.epoch ≤ 4294967296
def new (base n : Nat) : Wl := ⟨base, n, 1, 1, 1, []⟩
theorem Ok.new {base n : Nat} (h8 : 8 ≤ n) (h64 : n ≤ 64) (hb : base + n ≤ 512) : (Wl.new base n).Ok :=
  ⟨h8, h64, hb, Nat.le_refl _, by simp [Wl.new], Nat.le_refl _, Nat.le_refl _, Nat.zero_le _, fun rs h => by simp [Wl.new] at h, Nat.le_refl _, by simp [Wl.new]⟩
/-- Does a record go into the open sector? -/
def joins (l : Wl) (r : Rc) : Prop := l.first < l.end_ ∧ (body (l.secs.getLastD [])).length + (lay r).length ≤ 112
instance (l : Wl) (r : Rc) : Decidable (l.joins r) := inferInstanceAs (Decidable (_ ∧ _))
/-- Append of a record that may be. -/
def put (l : Wl) (r : Rc) : Wl := if l.joins r then { l with secs := l.secs.dropLast ++ [l.secs.getLastD [] ++ [r]] } else if l.secs.length < l.size then { l with secs := l.secs ++ [[r]] } else l
def putE (l : Wl) (r : Rc) : Nat := if l.joins r then 0 else if l.secs.length < l.size then 0 else 5
def putAt (l : Wl) (r : Rc) : Nat := if l.joins r then (l.end_ - 1) * 128 + (body (l.secs.getLastD [])).length else if l.secs.length < l.size then l.end_ * 128 else 0
theorem lastD_snoc {α : Type} (l : List α) (x d : α) : (l ++ [x]).getLastD d = x := by simp
theorem snoc_of {α : Type} {l : List α} (h : 0 < l.length) : ∃ i x, l = i ++ [x] := ⟨l.dropLast, l.getLast (List.ne_nil_of_length_pos h), (List.dropLast_concat_getLast _).symm⟩
theorem Ok.put {l : Wl} (h : l.Ok) {r : Rc} (hm : May r) (hl : (lay r).length ≤ 112) : (l.put r).Ok := by
  unfold Wl.put
  split
  · rename_i hj
    have hlt : 0 < l.secs.length := by have := hj.1; have := h.fl; unfold Wl.end_ at *; omega
    obtain ⟨i, x, e⟩ := snoc_of hlt
    have hx := h.sec x (by rw [e]; simp)
    have h2 := hj.2
    rw [e, lastD_snoc] at h2
    refine ⟨h.s8, h.s64, h.b0, h.l1, h.lm, h.fl, ?_, ?_, fun rs hrs => ?_, h.e1, h.em⟩
    · have := h.fe
      unfold Wl.end_ at *
      simp only [e, List.dropLast_concat, lastD_snoc, List.length_append, List.length_singleton] at this ⊢
      exact this
    · have := h.len
      simp only [e, List.dropLast_concat, lastD_snoc, List.length_append, List.length_singleton] at this ⊢
      exact this
    · simp only [e, List.dropLast_concat, lastD_snoc, List.mem_append, List.mem_singleton] at hrs
      rcases hrs with hrs | rfl
      · exact h.sec rs (by rw [e]; simp [hrs])
      · refine ⟨by simp, fun q hq => ?_, ?_⟩
        · rcases List.mem_append.1 hq with hq | hq
          · exact hx.2.1 q hq
          · simp at hq; subst hq; exact hm
        · rw [body_snoc, List.length_append]; exact h2
  · split
    · refine ⟨h.s8, h.s64, h.b0, h.l1, h.lm, h.fl, ?_, ?_, fun rs hrs => ?_, h.e1, h.em⟩
      · have := h.fe
        unfold Wl.end_ at *
        simp only [List.length_append, List.length_singleton]
        omega
      · simp only [List.length_append, List.length_singleton]; omega
      · rcases List.mem_append.1 hrs with hrs | hrs
        · exact h.sec rs hrs
        · simp at hrs
          subst hrs
          exact ⟨by simp, fun q hq => by simp at hq; subst hq; exact hm, by simpa [body] using hl⟩
    · exact h
/-- All records, each with its place. -/
def allFrom : Nat → List (List Rc) → List Ent
  | _, [] => []
  | i, rs :: rest => entsOf ((i * 128 : Nat) : Int) rs ++ allFrom (i + 1) rest
def all (l : Wl) : List Ent := allFrom l.low l.secs
def scan (l : Wl) (from_ : Int) : List Ent := l.all.filter fun x => decide (from_ ≤ x.1)
theorem allFrom_app : ∀ (i : Nat) (a b : List (List Rc)), allFrom i (a ++ b) = allFrom i a ++ allFrom (i + a.length) b
  | i, [], b => by simp [allFrom]
  | i, x :: a, b => by
    show entsOf _ x ++ allFrom (i + 1) (a ++ b) = _
    rw [allFrom_app, List.length_cons, show i + 1 + a.length = i + (a.length + 1) by omega]
    simp [allFrom]
theorem putAll {l : Wl} {r : Rc} (h0 : l.putE r = 0) (hfl : l.low ≤ l.first) : (l.put r).all = l.all ++ [((l.putAt r : Int), r)] := by
  unfold Wl.putE at h0
  unfold Wl.put Wl.putAt Wl.all
  split
  · rename_i hj
    have hlt : 0 < l.secs.length := by have := hj.1; unfold Wl.end_ at *; omega
    obtain ⟨i, x, e⟩ := snoc_of hlt
    simp only [Wl.end_, e, List.dropLast_concat, lastD_snoc, List.length_append, List.length_singleton]
    rw [allFrom_app, allFrom_app]
    simp only [allFrom, List.append_nil]
    rw [entsOf_snoc, List.append_assoc]
    congr 3
  · rename_i hj
    rw [if_neg hj] at h0
    split
    · simp only
      rw [allFrom_app]
      simp only [allFrom, entsOf, List.append_nil]
      rfl
    · rename_i hf
      rw [if_neg hf] at h0
      cases h0
end Wl
end Go.Proofs.Ytopihafmajadfaa
