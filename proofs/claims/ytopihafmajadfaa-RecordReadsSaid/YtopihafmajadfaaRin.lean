/- The document's reading (careenref04), as plain data: the bytes that are left, and whether they ended too early. -/
import Derived.Test.YtopihafmajadfaaRecLong
import Derived.Test.YtopihafmajadfaaNum4
namespace Go.Proofs.Ytopihafmajadfaa
open Go.RowKit
set_option linter.unusedSimpArgs false

theorem may_kinds {r : Rc} (h : May r) : r.kind = 1 ∨ r.kind = 2 ∨ r.kind = 3 ∨ r.kind = 4 ∨ r.kind = 5 ∨ r.kind = 6 := by
  cases h with
  | upd => exact .inl rfl
  | und => exact .inr (.inl rfl)
  | com hk => rcases hk with rfl | rfl
              · exact .inr (.inr (.inl rfl))
              · exact .inr (.inr (.inr (.inl rfl)))
  | beg => exact .inr (.inr (.inr (.inr (.inl rfl))))
  | tab => exact .inr (.inr (.inr (.inr (.inr rfl))))
structure Rin where
  s : List UInt8
  bad : Bool
namespace Rin
def fails (x : Rin) (n : Nat) : Bool := x.bad || decide (x.s.length < n)
def take (x : Rin) (n : Nat) : List UInt8 := if x.fails n then List.replicate n 0 else x.s.take n
def rest (x : Rin) (n : Nat) : Rin := if x.fails n then ⟨x.s, true⟩ else ⟨x.s.drop n, false⟩
def four (x : Rin) : Int := (num4 (x.take 4) : Nat)
def small (x : Rin) : Int := (((x.take 1).getD 0 0).toNat : Int)
/-- The rows of transactions, as long as nothing is amiss. -/
def rowsT : Nat → Rin → List Row3 × Rin
  | 0, x => ([], x)
  | n + 1, x => if x.bad then ([], x) else
    let y := rowsT n (((x.rest 4).rest 4).rest 4)
    ((x.four, (x.rest 4).four, ((x.rest 4).rest 4).four) :: y.1, y.2)
def rowsP : Nat → Rin → List Row2 × Rin
  | 0, x => ([], x)
  | n + 1, x => if x.bad then ([], x) else
    let y := rowsP n ((x.rest 1).rest 4)
    ((x.small, (x.rest 1).four) :: y.1, y.2)
def texts (x : Rin) (k : Int) (n : Nat) (r : Rc) : Rc × Rin :=
  if k = 1 then ({ r with before := ⟨(x.take n).toArray⟩, after := ⟨((x.rest n).take n).toArray⟩ }, (x.rest n).rest n)
  else ({ r with after := ⟨(x.take n).toArray⟩ }, x.rest n)
def change (x : Rin) (k : Int) (r : Rc) : Rc × Rin :=
  texts (((x.rest 1).rest 1).rest 1) k ((x.rest 1).rest 1).small.toNat { r with page := x.small, off := (x.rest 1).small }
def tables (x : Rin) (r : Rc) : Rc × Rin :=
  let n := (x.rest 4).small.toNat
  let t := rowsT n ((x.rest 4).rest 1)
  let m := t.2.small.toNat
  let p := rowsP m (t.2.rest 1)
  ({ r with beg := x.four, txns := t.1, pages := p.1 }, p.2)
/-- The record that is read, whatever it is. -/
def rec0 (x0 : Rin) : Rc × Rin :=
  let k := x0.small
  let x := x0.rest 1
  let r := { Rc.nil with kind := k }
  if k = 1 ∨ k = 2 ∨ k = 3 ∨ k = 4 then
    let r := { r with txn := x.four, prev := (x.rest 4).four }
    let y := (x.rest 4).rest 4
    if k = 2 then change (y.rest 4) k { r with next := y.four }
    else if k = 1 then change y k r
    else (r, y)
  else if k = 6 then tables x r
  else (r, x)

theorem take_app (c l : List UInt8) : (Rin.mk (c ++ l) false).take c.length = c ∧ (Rin.mk (c ++ l) false).rest c.length = ⟨l, false⟩ := by
  have h : (Rin.mk (c ++ l) false).fails c.length = false := by simp [fails]
  unfold take rest
  rw [h]
  simp
theorem four_app {n : Int} (h : Num n) (l : List UInt8) : (Rin.mk (beI n ++ l) false).four = n ∧ (Rin.mk (beI n ++ l) false).rest 4 = ⟨l, false⟩ := by
  obtain ⟨h1, h2⟩ := take_app (beI n) l
  rw [beI_len] at h1 h2
  refine ⟨?_, h2⟩
  unfold four
  rw [h1]
  unfold Num at h
  unfold num4 beI be4
  simp [List.getD_eq_getElem?_getD]
  omega
theorem small_app {n : Int} (h : 0 ≤ n ∧ n ≤ 255) (l : List UInt8) : (Rin.mk (lowI n :: l) false).small = n ∧ (Rin.mk (lowI n :: l) false).rest 1 = ⟨l, false⟩ := by
  obtain ⟨h1, h2⟩ := take_app [lowI n] l
  refine ⟨?_, h2⟩
  unfold small
  rw [show (Rin.mk (lowI n :: l) false).take 1 = [lowI n] from h1]
  simpa using lowI_toNat h
theorem rowsT_app : ∀ (xs : List Row3) (_ : ∀ x ∈ xs, Row3Ok x) (l : List UInt8), rowsT xs.length ⟨xs.flatMap enc3 ++ l, false⟩ = (xs, ⟨l, false⟩)
  | [], _, l => rfl
  | x :: xs, h, l => by
    obtain ⟨_, h1, h2, h3⟩ := h x (by simp)
    have e : (x :: xs).flatMap enc3 ++ l = beI x.1 ++ (beI x.2.1 ++ (beI x.2.2 ++ (xs.flatMap enc3 ++ l))) := by simp [enc3]
    rw [e, List.length_cons]
    unfold rowsT
    rw [if_neg (by simp), (four_app h1 _).1, (four_app h1 _).2, (four_app h2 _).1, (four_app h2 _).2, (four_app h3 _).1, (four_app h3 _).2, rowsT_app xs (fun y hy => h y (by simp [hy])) l]
theorem rowsP_app : ∀ (xs : List Row2) (_ : ∀ x ∈ xs, Row2Ok x) (l : List UInt8), rowsP xs.length ⟨xs.flatMap enc2 ++ l, false⟩ = (xs, ⟨l, false⟩)
  | [], _, l => rfl
  | x :: xs, h, l => by
    obtain ⟨h1, h2⟩ := h x (by simp)
    have e : (x :: xs).flatMap enc2 ++ l = lowI x.1 :: (beI x.2 ++ (xs.flatMap enc2 ++ l)) := by simp [enc2]
    rw [e, List.length_cons]
    unfold rowsP
    rw [if_neg (by simp), (small_app (by omega) _).1, (small_app (by omega) _).2, (four_app h2 _).1, (four_app h2 _).2, rowsP_app xs (fun y hy => h y (by simp [hy])) l]
/-- What may be is read as it was. -/
theorem rec0_lay {r : Rc} (h : May r) (l : List UInt8) : rec0 ⟨lay r ++ l, false⟩ = (r, ⟨l, false⟩) := by
  cases h with
  | @upd t p pg o b a ht hn hp hs hb =>
    obtain ⟨h1, h2, h3, h4⟩ := hs
    have e : lay (.upd t p pg o b a) ++ l = lowI 1 :: (beI t ++ (beI p ++ (lowI pg :: lowI o :: lowI a.size :: (b.data.toList ++ (a.data.toList ++ l))))) := by simp [lay, Rc.upd]
    rw [e]
    unfold rec0
    simp only [(small_app (n := 1) (by omega) _).1, (small_app (n := 1) (by omega) _).2, (four_app hn _).1, (four_app hn _).2, (four_app hp _).1, (four_app hp _).2]
    simp only [true_or, or_true, or_false, false_or, if_true, if_false, reduceIte]
    unfold change texts
    simp only [(small_app (n := pg) (by omega) _).1, (small_app (n := pg) (by omega) _).2, (small_app (n := o) (by omega) _).1, (small_app (n := o) (by omega) _).2, (small_app (n := a.size) (by omega) _).1, (small_app (n := a.size) (by omega) _).2, if_true]
    have q1 := take_app b.data.toList (a.data.toList ++ l)
    have q2 := take_app a.data.toList l
    rw [show b.data.toList.length = a.size from hb] at q1
    rw [show a.data.toList.length = a.size from rfl] at q2
    rw [Int.toNat_natCast, q1.1, q1.2, q2.1, q2.2]
    rfl
  | @und t p n pg o a ht hn hp hx hs =>
    obtain ⟨h1, h2, h3, h4⟩ := hs
    have e : lay (.und t p n pg o a) ++ l = lowI 2 :: (beI t ++ (beI p ++ (beI n ++ (lowI pg :: lowI o :: lowI a.size :: (a.data.toList ++ l))))) := by simp [lay, Rc.und]
    rw [e]
    unfold rec0
    simp only [(small_app (n := 2) (by omega) _).1, (small_app (n := 2) (by omega) _).2, (four_app hn _).1, (four_app hn _).2, (four_app hp _).1, (four_app hp _).2, (four_app hx _).1, (four_app hx _).2]
    simp only [true_or, or_true, or_false, false_or, if_true, if_false, reduceIte]
    unfold change texts
    simp only [(small_app (n := pg) (by omega) _).1, (small_app (n := pg) (by omega) _).2, (small_app (n := o) (by omega) _).1, (small_app (n := o) (by omega) _).2, (small_app (n := a.size) (by omega) _).1, (small_app (n := a.size) (by omega) _).2, if_false, reduceIte]
    have q2 := take_app a.data.toList l
    rw [show a.data.toList.length = a.size from rfl] at q2
    rw [Int.toNat_natCast, q2.1, q2.2]
    rfl
  | @com k t p hk ht hn hp =>
    have e : lay (.com k t p) ++ l = lowI k :: (beI t ++ (beI p ++ l)) := by
      rcases hk with rfl | rfl <;> simp [lay, Rc.com]
    rw [e]
    unfold rec0
    simp only [(small_app (n := k) (by omega) _).1, (small_app (n := k) (by omega) _).2, (four_app hn _).1, (four_app hn _).2, (four_app hp _).1, (four_app hp _).2]
    rw [if_pos (by omega), if_neg (by omega), if_neg (by omega)]
    rfl
  | beg =>
    have e : lay .begin5 ++ l = lowI 5 :: l := by simp [lay, Rc.begin5, Rc.com]
    rw [e]
    unfold rec0
    simp only [(small_app (n := 5) (by omega) _).1, (small_app (n := 5) (by omega) _).2]
    rfl
  | @tab b ts ps hb ht hp h3 h2 =>
    have e : lay (.tab b ts ps) ++ l = lowI 6 :: (beI b ++ (lowI ts.length :: (ts.flatMap enc3 ++ (lowI ps.length :: (ps.flatMap enc2 ++ l))))) := by simp [lay, Rc.tab, encTab]
    rw [e]
    unfold rec0 tables
    simp only [(small_app (n := 6) (by omega) _).1, (small_app (n := 6) (by omega) _).2, (four_app hb _).1, (four_app hb _).2, (small_app (n := ts.length) (by omega) _).1, (small_app (n := ts.length) (by omega) _).2, Int.toNat_natCast,
      rowsT_app ts h3, (small_app (n := ps.length) (by omega) _).1, (small_app (n := ps.length) (by omega) _).2, rowsP_app ps h2]
    simp only [true_or, or_true, or_false, false_or, if_true, if_false, reduceIte]
    rfl

/-! What was read without fault stood there. -/
theorem rest_bad {x : Rin} {n : Nat} (h : (x.rest n).bad = false) : x.bad = false ∧ n ≤ x.s.length ∧ x.take n = x.s.take n ∧ (x.rest n).s = x.s.drop n := by
  unfold rest at h ⊢
  cases hf : x.fails n with
  | true => rw [hf] at h; cases h
  | false =>
    unfold take
    rw [hf]
    unfold fails at hf
    simp only [Bool.or_eq_false_iff, decide_eq_false_iff_not, Nat.not_lt] at hf
    exact ⟨hf.1, hf.2, rfl, rfl⟩
theorem rest_split {x : Rin} {n : Nat} (h : (x.rest n).bad = false) : x.s = x.take n ++ (x.rest n).s ∧ (x.take n).length = n ∧ x.bad = false := by
  obtain ⟨h1, h2, h3, h4⟩ := rest_bad h
  rw [h3, h4]
  exact ⟨(List.take_append_drop n x.s).symm, by simp; omega, h1⟩
theorem four_split {x : Rin} (h : (x.rest 4).bad = false) : x.s = beI x.four ++ (x.rest 4).s ∧ x.bad = false := by
  obtain ⟨h1, h2, h3⟩ := rest_split h
  refine ⟨?_, h3⟩
  unfold four
  generalize x.take 4 = t at *
  rw [h1]
  congr 1
  match t, h2 with
  | [a, b, c, d], _ =>
    have ha := a.toNat_lt; have hb := b.toNat_lt; have hc := c.toNat_lt; have hd := d.toNat_lt
    unfold beI be4 num4
    simp only [List.getD_cons_zero, List.getD_cons_succ]
    have e : (((a.toNat * 16777216 + b.toNat * 65536 + c.toNat * 256 + d.toNat : Nat) : Int) % 4294967296).toNat = a.toNat * 16777216 + b.toNat * 65536 + c.toNat * 256 + d.toNat := by omega
    rw [e]
    have f : ∀ (u : UInt8) (n : Nat), n % 256 = u.toNat → u = UInt8.ofNat n := fun u n hn => by
      apply UInt8.toNat_inj.1
      simp [hn]
    rw [← f a _ (by omega), ← f b _ (by omega), ← f c _ (by omega), ← f d _ (by omega)]
theorem small_split {x : Rin} (h : (x.rest 1).bad = false) : x.s = lowI x.small :: (x.rest 1).s ∧ x.bad = false ∧ 0 ≤ x.small ∧ x.small ≤ 255 := by
  obtain ⟨h1, h2, h3⟩ := rest_split h
  have hb : 0 ≤ x.small ∧ x.small ≤ 255 := by
    unfold small
    have := ((x.take 1).getD 0 0).toNat_lt
    omega
  refine ⟨?_, h3, hb⟩
  unfold small at hb ⊢
  generalize x.take 1 = t at *
  match t, h2 with
  | [a], _ =>
    rw [h1]
    simp only [List.getD_cons_zero, List.cons_append, List.nil_append] at hb ⊢
    congr 1
    apply UInt8.toNat_inj.1
    have := lowI_toNat hb
    omega
theorem rowsT_split : ∀ (n : Nat) (x : Rin), (rowsT n x).2.bad = false → x.s = (rowsT n x).1.flatMap enc3 ++ (rowsT n x).2.s ∧ (rowsT n x).1.length = n ∧ x.bad = false
  | 0, x, h => ⟨rfl, rfl, h⟩
  | n + 1, x, h => by
    unfold rowsT at h ⊢
    split at h
    · rename_i hb; rw [show x.bad = false from h] at hb; cases hb
    · rename_i hb
      rw [if_neg hb]
      obtain ⟨e1, e2, e3⟩ := rowsT_split n _ h
      obtain ⟨c1, c2⟩ := four_split e3
      obtain ⟨b1, b2⟩ := four_split c2
      obtain ⟨a1, a2⟩ := four_split b2
      refine ⟨?_, by simp only [List.length_cons, e2], a2⟩
      rw [a1, b1, c1, e1]
      simp [enc3]
theorem rowsP_split : ∀ (n : Nat) (x : Rin), (rowsP n x).2.bad = false → x.s = (rowsP n x).1.flatMap enc2 ++ (rowsP n x).2.s ∧ (rowsP n x).1.length = n ∧ x.bad = false
  | 0, x, h => ⟨rfl, rfl, h⟩
  | n + 1, x, h => by
    unfold rowsP at h ⊢
    split at h
    · rename_i hb; rw [show x.bad = false from h] at hb; cases hb
    · rename_i hb
      rw [if_neg hb]
      obtain ⟨e1, e2, e3⟩ := rowsP_split n _ h
      obtain ⟨b1, b2⟩ := four_split e3
      obtain ⟨a1, a2, _⟩ := small_split b2
      refine ⟨?_, by simp only [List.length_cons, e2], a2⟩
      rw [a1, b1, e1]
      simp [enc2]
theorem texts_split {x : Rin} {k : Int} {n : Nat} {r : Rc} (h : (texts x k n r).2.bad = false) (hk : k = 1 ∨ k = 2) (hb : r.before = ⟨#[]⟩) :
    x.bad = false ∧ (texts x k n r).1.after.size = n ∧ x.s = (texts x k n r).1.before.data.toList ++ (texts x k n r).1.after.data.toList ++ (texts x k n r).2.s := by
  unfold texts at h ⊢
  rcases hk with rfl | rfl
  · simp only [if_true, reduceIte] at h ⊢
    obtain ⟨a1, a2, a3⟩ := rest_split h
    obtain ⟨b1, b2, b3⟩ := rest_split a3
    refine ⟨b3, a2, ?_⟩
    rw [b1, a1]
    simp
  · simp only [Int.reduceEq, if_false, reduceIte] at h ⊢
    obtain ⟨a1, a2, a3⟩ := rest_split h
    refine ⟨a3, a2, ?_⟩
    rw [a1, hb]
    rfl
theorem texts_same (x : Rin) (k : Int) (n : Nat) (r : Rc) : (texts x k n r).1.kind = r.kind ∧ (texts x k n r).1.txn = r.txn ∧ (texts x k n r).1.prev = r.prev ∧ (texts x k n r).1.next = r.next ∧ (texts x k n r).1.page = r.page ∧ (texts x k n r).1.off = r.off := by
  unfold texts; split <;> exact ⟨rfl, rfl, rfl, rfl, rfl, rfl⟩
theorem change_split {x : Rin} {k : Int} {r : Rc} (h : (change x k r).2.bad = false) (hk : k = 1 ∨ k = 2) (hb : r.before = ⟨#[]⟩) :
    x.bad = false ∧ (change x k r).1.kind = r.kind ∧ (change x k r).1.txn = r.txn ∧ (change x k r).1.prev = r.prev ∧ (change x k r).1.next = r.next ∧
    x.s = [lowI (change x k r).1.page, lowI (change x k r).1.off, lowI (change x k r).1.after.size] ++ (change x k r).1.before.data.toList ++ (change x k r).1.after.data.toList ++ (change x k r).2.s := by
  unfold change at h ⊢
  obtain ⟨h1, h2, h3⟩ := texts_split h hk hb
  obtain ⟨e1, e2, e3, e4, e5, e6⟩ := texts_same (((x.rest 1).rest 1).rest 1) k ((x.rest 1).rest 1).small.toNat { r with page := x.small, off := (x.rest 1).small }
  generalize texts (((x.rest 1).rest 1).rest 1) k ((x.rest 1).rest 1).small.toNat { r with page := x.small, off := (x.rest 1).small } = y at *
  obtain ⟨c1, c2, c3, c4⟩ := small_split h1
  obtain ⟨b1, b2, b3, b4⟩ := small_split c2
  obtain ⟨a1, a2, a3, a4⟩ := small_split b2
  refine ⟨a2, e1, e2, e3, e4, ?_⟩
  rw [a1, b1, c1, h3, e5, e6, h2]
  rw [Int.toNat_of_nonneg c3]
  simp
theorem rec0_split {x0 : Rin} (h : (rec0 x0).2.bad = false) (hm : May (rec0 x0).1) : x0.s = lay (rec0 x0).1 ++ (rec0 x0).2.s := by
  unfold rec0 at h hm ⊢
  generalize hk : x0.small = k at *
  by_cases h2 : k = 2
  · subst h2
    simp only [true_or, or_true, if_true, reduceIte, Int.reduceEq, if_false] at h hm ⊢
    obtain ⟨d1, d2, d3, d4, d5, d6⟩ := change_split h (.inr rfl) rfl
    generalize change _ _ _ = y at *
    obtain ⟨c1, c2⟩ := four_split d1
    obtain ⟨b1, b2⟩ := four_split c2
    obtain ⟨a1, a2⟩ := four_split b2
    obtain ⟨z1, z2, _⟩ := small_split a2
    rw [hk] at z1
    rw [z1, a1, b1, c1, d6]
    simp only at d2 d3 d4 d5
    unfold lay
    rw [d2, d3, d4, d5]
    simp
  · by_cases h1 : k = 1
    · subst h1
      simp only [true_or, or_true, if_true, reduceIte, Int.reduceEq, if_false] at h hm ⊢
      obtain ⟨d1, d2, d3, d4, d5, d6⟩ := change_split h (.inl rfl) rfl
      generalize change _ _ _ = y at *
      obtain ⟨b1, b2⟩ := four_split d1
      obtain ⟨a1, a2⟩ := four_split b2
      obtain ⟨z1, z2, _⟩ := small_split a2
      rw [hk] at z1
      rw [z1, a1, b1, d6]
      simp only at d2 d3 d4 d5
      unfold lay
      rw [d2, d3, d4]
      simp
    · by_cases h3 : k = 3 ∨ k = 4
      · rw [if_pos (by omega), if_neg h2, if_neg h1] at h hm ⊢
        simp only at h hm ⊢
        obtain ⟨b1, b2⟩ := four_split h
        obtain ⟨a1, a2⟩ := four_split b2
        obtain ⟨z1, z2, _⟩ := small_split a2
        rw [hk] at z1
        rw [z1, a1, b1]
        unfold lay
        simp only
        rw [if_pos (by omega), if_neg h2, if_neg (by omega), if_neg (by omega)]
        simp
      · rw [if_neg (by omega)] at h hm ⊢
        by_cases h6 : k = 6
        · rw [if_pos h6] at h hm ⊢
          unfold tables at h hm ⊢
          simp only at h hm ⊢
          obtain ⟨p1, p2, p3⟩ := rowsP_split _ _ h
          obtain ⟨q1, q2, q3, q4⟩ := small_split p3
          obtain ⟨t1, t2, t3⟩ := rowsT_split _ _ q2
          obtain ⟨s1, s2, s3, s4⟩ := small_split t3
          obtain ⟨a1, a2⟩ := four_split s2
          obtain ⟨z1, z2, _⟩ := small_split a2
          rw [hk] at z1
          rw [z1, a1, s1, t1, q1, p1]
          unfold lay encTab
          simp only [t2, p2]
          rw [if_neg (by omega), if_neg h2, if_neg (by omega), if_pos h6, Int.toNat_of_nonneg s3, Int.toNat_of_nonneg q3]
          simp
        · rw [if_neg h6] at h hm ⊢
          simp only at h hm ⊢
          obtain ⟨z1, z2, _⟩ := small_split h
          rw [hk] at z1
          have hk5 := may_kinds hm
          simp only at hk5
          unfold lay
          simp only
          rw [if_neg (by omega), if_neg h2, if_neg (by omega), if_neg h6, z1]
          simp
end Rin
end Go.Proofs.Ytopihafmajadfaa
