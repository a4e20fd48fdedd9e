/- Records as plain data: which may be, their bytes, and how bytes are read; nothing of the program is imported. -/
import Derived.Test.YtpcfhpffbogjmaaBe
namespace Go.Proofs.Ytpcfhpffbogjmaa
open Go.RowKit

/-- The four bytes of any whole number. -/
def beI (n : Int) : List UInt8 := be4 (n % 4294967296).toNat
/-- Its lowest byte. -/
def lowI (n : Int) : UInt8 := UInt8.ofNat (n % 256).toNat
theorem beI_len (n : Int) : (beI n).length = 4 := rfl

abbrev Row3 := Int × Int × Int
abbrev Row2 := Int × Int
structure Rc where
  kind : Int
  txn : Int
  page : Int
  off : Int
  prev : Int
  next : Int
  beg : Int
  before : ByteArray
  after : ByteArray
  txns : List Row3
  pages : List Row2
deriving DecidableEq
namespace Rc
theorem ext11 {a b : Rc} (h1 : a.kind = b.kind) (h2 : a.txn = b.txn) (h3 : a.page = b.page) (h4 : a.off = b.off) (h5 : a.prev = b.prev) (h6 : a.next = b.next) (h7 : a.beg = b.beg) (h8 : a.before = b.before) (h9 : a.after = b.after) (h10 : a.txns = b.txns) (h11 : a.pages = b.pages) : a = b := by
  cases a; cases b; simp only at h1 h2 h3 h4 h5 h6 h7 h8 h9 h10 h11; simp only [h1, h2, h3, h4, h5, h6, h7, h8, h9, h10, h11]
def nil : Rc := ⟨0, 0, 0, 0, 0, 0, 0, ⟨#[]⟩, ⟨#[]⟩, [], []⟩
def upd (t p pg o : Int) (b a : ByteArray) : Rc := ⟨1, t, pg, o, p, 0, 0, b, a, [], []⟩
def und (t p n pg o : Int) (a : ByteArray) : Rc := ⟨2, t, pg, o, p, n, 0, ⟨#[]⟩, a, [], []⟩
def com (k t p : Int) : Rc := ⟨k, t, 0, 0, p, 0, 0, ⟨#[]⟩, ⟨#[]⟩, [], []⟩
def tab (b : Int) (ts : List Row3) (ps : List Row2) : Rc := ⟨6, 0, 0, 0, 0, 0, b, ⟨#[]⟩, ⟨#[]⟩, ts, ps⟩
def begin5 : Rc := com 5 0 0
end Rc

def Num (n : Int) : Prop := 0 ≤ n ∧ n ≤ 2147483647
instance (n : Int) : Decidable (Num n) := inferInstanceAs (Decidable (_ ∧ _))
def Spot (pg o : Int) (a : ByteArray) : Prop := (0 ≤ pg ∧ pg ≤ 7) ∧ 0 ≤ o ∧ (1 ≤ a.size ∧ a.size ≤ 16) ∧ o + a.size ≤ 220
instance (pg o : Int) (a : ByteArray) : Decidable (Spot pg o a) := inferInstanceAs (Decidable (_ ∧ _))
def Row3Ok (x : Row3) : Prop := 1 ≤ x.1 ∧ Num x.1 ∧ Num x.2.1 ∧ Num x.2.2
instance (x : Row3) : Decidable (Row3Ok x) := inferInstanceAs (Decidable (_ ∧ _))
def Row2Ok (x : Row2) : Prop := (0 ≤ x.1 ∧ x.1 ≤ 7) ∧ Num x.2
instance (x : Row2) : Decidable (Row2Ok x) := inferInstanceAs (Decidable (_ ∧ _))
/-- May a record be? -/
inductive May : Rc → Prop
  | upd {t p pg o : Int} {b a : ByteArray} (ht : 1 ≤ t) (hn : Num t) (hp : Num p) (hs : Spot pg o a) (hb : b.size = a.size) : May (.upd t p pg o b a)
  | und {t p n pg o : Int} {a : ByteArray} (ht : 1 ≤ t) (hn : Num t) (hp : Num p) (hx : Num n) (hs : Spot pg o a) : May (.und t p n pg o a)
  | com {k t p : Int} (hk : k = 3 ∨ k = 4) (ht : 1 ≤ t) (hn : Num t) (hp : Num p) : May (.com k t p)
  | beg : May .begin5
  | tab {b : Int} {ts : List Row3} {ps : List Row2} (hb : Num b) (ht : ts.length ≤ 4) (hp : ps.length ≤ 8) (h3 : ∀ x ∈ ts, Row3Ok x) (h2 : ∀ x ∈ ps, Row2Ok x) : May (.tab b ts ps)

/-- The bytes of rows. -/
def enc3 (x : Row3) : List UInt8 := beI x.1 ++ beI x.2.1 ++ beI x.2.2
def enc2 (x : Row2) : List UInt8 := lowI x.1 :: beI x.2
def encTab (r : Rc) : List UInt8 := beI r.beg ++ [lowI r.txns.length] ++ r.txns.flatMap enc3 ++ [lowI r.pages.length] ++ r.pages.flatMap enc2
/-- The bytes of a record (of one that may not be: some bytes). -/
def lay (r : Rc) : List UInt8 :=
  [lowI r.kind] ++ (if r.kind ≤ 4 then beI r.txn ++ beI r.prev else []) ++
  (if r.kind = 2 then beI r.next else []) ++
  (if r.kind = 1 ∨ r.kind = 2 then [lowI r.page, lowI r.off, lowI r.after.size] ++ r.before.data.toList ++ r.after.data.toList else []) ++
  (if r.kind = 6 then encTab r else [])

/-- A byte from lo to hi. -/
def smallP (lo hi : Int) : List UInt8 → Option (Int × List UInt8)
  | [] => none
  | b :: l => if lo ≤ (b.toNat : Int) ∧ (b.toNat : Int) ≤ hi then some ((b.toNat : Int), l) else none
/-- Four bytes as a number, the highest first. -/
def val4 (a b c d : UInt8) : Nat := a.toNat * 16777216 + b.toNat * 65536 + c.toNat * 256 + d.toNat
def numP (lo : Int) : List UInt8 → Option (Int × List UInt8)
  | a :: b :: c :: d :: l => if lo ≤ (val4 a b c d : Int) ∧ (val4 a b c d : Int) ≤ 2147483647 then some ((val4 a b c d : Int), l) else none
  | _ => none
/-- So many bytes. -/
def txtP (n : Nat) (l : List UInt8) : Option (ByteArray × List UInt8) := if n ≤ l.length then some (⟨(l.take n).toArray⟩, l.drop n) else none
/-- So many rows. -/
def manyP {α : Type} (p : List UInt8 → Option (α × List UInt8)) : Nat → List UInt8 → Option (List α × List UInt8)
  | 0, l => some ([], l)
  | n + 1, l => (p l).bind fun x => (manyP p n x.2).map fun y => (x.1 :: y.1, y.2)
def row3P (l : List UInt8) : Option (Row3 × List UInt8) :=
  (numP 1 l).bind fun a => (numP 0 a.2).bind fun b => (numP 0 b.2).map fun c => ((a.1, b.1, c.1), c.2)
def row2P (l : List UInt8) : Option (Row2 × List UInt8) :=
  (smallP 0 7 l).bind fun a => (numP 0 a.2).map fun b => ((a.1, b.1), b.2)
/-- Page, Off, Before (of an update), After. -/
def changeP (r : Rc) (l : List UInt8) : Option (Rc × List UInt8) :=
  (smallP 0 7 l).bind fun pg => (smallP 0 219 pg.2).bind fun o => (smallP 1 (min 16 (220 - o.1)) o.2).bind fun n =>
    if r.kind = 1 then (txtP n.1.toNat n.2).bind fun b => (txtP n.1.toNat b.2).map fun a => ({ r with page := pg.1, off := o.1, before := b.1, after := a.1 }, a.2)
    else (txtP n.1.toNat n.2).map fun a => ({ r with page := pg.1, off := o.1, after := a.1 }, a.2)
def tablesP (r : Rc) (l : List UInt8) : Option (Rc × List UInt8) :=
  (numP 0 l).bind fun b => (smallP 0 4 b.2).bind fun n => (manyP row3P n.1.toNat n.2).bind fun ts =>
    (smallP 0 8 ts.2).bind fun m => (manyP row2P m.1.toNat m.2).map fun ps => ({ r with beg := b.1, txns := ts.1, pages := ps.1 }, ps.2)
/-- A record that may be, at the head of a text. -/
def recP (l : List UInt8) : Option (Rc × List UInt8) :=
  (smallP 1 6 l).bind fun k =>
    if k.1 ≤ 4 then (numP 1 k.2).bind fun t => (numP 0 t.2).bind fun p =>
      if k.1 = 2 then (numP 0 p.2).bind fun n => changeP { Rc.nil with kind := k.1, txn := t.1, prev := p.1, next := n.1 } n.2
      else if k.1 = 1 then changeP { Rc.nil with kind := k.1, txn := t.1, prev := p.1 } p.2
      else some ({ Rc.nil with kind := k.1, txn := t.1, prev := p.1 }, p.2)
    else if k.1 = 6 then tablesP { Rc.nil with kind := k.1 } k.2
    else some ({ Rc.nil with kind := k.1 }, k.2)

theorem lowI_toNat {n : Int} (h : 0 ≤ n ∧ n ≤ 255) : ((lowI n).toNat : Int) = n := by
  unfold lowI; simp; omega
theorem smallP_low {lo hi n : Int} (h : lo ≤ n ∧ n ≤ hi) (h2 : 0 ≤ n ∧ n ≤ 255) (l : List UInt8) : smallP lo hi (lowI n :: l) = some (n, l) := by
  show (if _ then _ else _) = _
  rw [lowI_toNat h2, if_pos h]
theorem val4_be {n : Nat} (h : n < 4294967296) : val4 (UInt8.ofNat (n / 16777216)) (UInt8.ofNat (n / 65536)) (UInt8.ofNat (n / 256)) (UInt8.ofNat n) = n := by
  unfold val4; simp; omega
theorem numP_be {lo n : Int} (h : lo ≤ n) (h2 : Num n) (l : List UInt8) : numP lo (beI n ++ l) = some (n, l) := by
  unfold Num at h2
  show (if _ then _ else _) = _
  have e : ((val4 (UInt8.ofNat ((n % 4294967296).toNat / 16777216)) (UInt8.ofNat ((n % 4294967296).toNat / 65536)) (UInt8.ofNat ((n % 4294967296).toNat / 256)) (UInt8.ofNat (n % 4294967296).toNat) : Nat) : Int) = n := by
    rw [val4_be (by omega)]; omega
  rw [e, if_pos ⟨h, h2.2⟩]
  rfl
theorem txtP_app (a : ByteArray) (l : List UInt8) : txtP a.size (a.data.toList ++ l) = some (a, l) := by
  unfold txtP
  have e : a.data.toList.length = a.size := rfl
  rw [if_pos (by rw [List.length_append, e]; omega), ← e, List.take_left' rfl, List.drop_left' rfl]
theorem manyP_app {α : Type} {p : List UInt8 → Option (α × List UInt8)} {f : α → List UInt8} (xs : List α) (h : ∀ x ∈ xs, ∀ l, p (f x ++ l) = some (x, l)) (l : List UInt8) : manyP p xs.length (xs.flatMap f ++ l) = some (xs, l) := by
  induction xs with
  | nil => rfl
  | cons x xs ih =>
    simp only [List.flatMap_cons, List.length_cons, manyP, List.append_assoc]
    rw [h x List.mem_cons_self, Option.bind_some, ih fun y hy => h y (List.mem_cons_of_mem _ hy)]
    rfl
theorem row3P_app {x : Row3} (h : Row3Ok x) (l : List UInt8) : row3P (enc3 x ++ l) = some (x, l) := by
  obtain ⟨h0, h1, h2, h3⟩ := h
  unfold row3P enc3
  simp only [List.append_assoc]
  rw [numP_be h0 h1, Option.bind_some, numP_be h2.1 h2, Option.bind_some, numP_be h3.1 h3]
  rfl
theorem row2P_app {x : Row2} (h : Row2Ok x) (l : List UInt8) : row2P (enc2 x ++ l) = some (x, l) := by
  obtain ⟨h0, h1⟩ := h
  unfold row2P enc2
  simp only [List.cons_append]
  rw [smallP_low h0 ⟨h0.1, by omega⟩, Option.bind_some, numP_be h1.1 h1]
  rfl

/-- What may be is read as it was. -/
theorem recP_lay {r : Rc} (h : May r) (l : List UInt8) : recP (lay r ++ l) = some (r, l) := by
  cases h with
  | @upd t p pg o b a ht hn hp hs hb =>
    have k4 : (1 : Int) ≤ 4 := by decide
    obtain ⟨h1, h2, h3, h4⟩ := hs
    have e : lay (.upd t p pg o b a) ++ l = lowI 1 :: (beI t ++ (beI p ++ (lowI pg :: lowI o :: lowI a.size :: (b.data.toList ++ (a.data.toList ++ l))))) := by
      simp [lay, Rc.upd]
    rw [e]
    unfold recP changeP
    rw [smallP_low (by omega) (by omega), Option.bind_some, if_pos k4, numP_be ht hn, Option.bind_some, numP_be hp.1 hp, Option.bind_some, if_neg (by show ¬ (1 : Int) = 2; decide), if_pos rfl,
      smallP_low h1 (by omega), Option.bind_some, smallP_low (by omega) (by omega), Option.bind_some, smallP_low (by omega) (by omega), Option.bind_some, if_pos rfl]
    simp only [Int.toNat_natCast]
    rw [← hb, txtP_app, Option.bind_some, hb, txtP_app]
    rfl
  | @und t p n pg o a ht hn hp hx hs =>
    have k4 : (2 : Int) ≤ 4 := by decide
    obtain ⟨h1, h2, h3, h4⟩ := hs
    have e : lay (.und t p n pg o a) ++ l = lowI 2 :: (beI t ++ (beI p ++ (beI n ++ (lowI pg :: lowI o :: lowI a.size :: (a.data.toList ++ l))))) := by
      simp [lay, Rc.und]
    rw [e]
    unfold recP changeP
    rw [smallP_low (by omega) (by omega), Option.bind_some, if_pos k4, numP_be ht hn, Option.bind_some, numP_be hp.1 hp, Option.bind_some, if_pos rfl, numP_be hx.1 hx, Option.bind_some,
      smallP_low h1 (by omega), Option.bind_some, smallP_low (by omega) (by omega), Option.bind_some, smallP_low (by omega) (by omega), Option.bind_some, if_neg (by show ¬ (2 : Int) = 1; decide)]
    simp only [Int.toNat_natCast]
    rw [txtP_app]
    rfl
  | @com k t p hk ht hn hp =>
    have e : lay (.com k t p) ++ l = lowI k :: (beI t ++ (beI p ++ l)) := by
      rcases hk with rfl | rfl <;> simp [lay, Rc.com]
    rw [e]
    unfold recP
    rw [smallP_low (by omega) (by omega), Option.bind_some, if_pos (by show k ≤ 4; omega), numP_be ht hn, Option.bind_some, numP_be hp.1 hp, Option.bind_some, if_neg (by show ¬ k = 2; omega), if_neg (by show ¬ k = 1; omega)]
    rfl
  | beg =>
    have e : lay .begin5 ++ l = lowI 5 :: l := by simp [lay, Rc.begin5, Rc.com]
    rw [e]
    unfold recP
    rw [smallP_low (by omega) (by omega), Option.bind_some, if_neg (by show ¬ (5 : Int) ≤ 4; decide), if_neg (by show ¬ (5 : Int) = 6; decide)]
    rfl
  | @tab b ts ps hb ht hp h3 h2 =>
    have e : lay (.tab b ts ps) ++ l = lowI 6 :: (beI b ++ (lowI ts.length :: (ts.flatMap enc3 ++ (lowI ps.length :: (ps.flatMap enc2 ++ l))))) := by
      simp [lay, Rc.tab, encTab]
    rw [e]
    unfold recP tablesP
    rw [smallP_low (by omega) (by omega), Option.bind_some, if_neg (by show ¬ (6 : Int) ≤ 4; decide), if_pos rfl, numP_be hb.1 hb, Option.bind_some, smallP_low (by omega) (by omega), Option.bind_some]
    simp only [Int.toNat_natCast]
    rw [manyP_app ts (fun x hx => row3P_app (h3 x hx)), Option.bind_some, smallP_low (by omega) (by omega), Option.bind_some]
    simp only [Int.toNat_natCast]
    rw [manyP_app ps (fun x hx => row2P_app (h2 x hx))]
    rfl

theorem smallP_some {lo hi n : Int} {l r : List UInt8} (h : smallP lo hi l = some (n, r)) : l = lowI n :: r ∧ lo ≤ n ∧ n ≤ hi ∧ 0 ≤ n ∧ n ≤ 255 := by
  cases l with
  | nil => cases h
  | cons b l =>
    have h' : (if lo ≤ (b.toNat : Int) ∧ (b.toNat : Int) ≤ hi then some ((b.toNat : Int), l) else none) = some (n, r) := h
    have hb := b.toNat_lt
    split at h'
    · rename_i g
      simp only [Option.some.injEq, Prod.mk.injEq] at h'
      obtain ⟨rfl, rfl⟩ := h'
      refine ⟨?_, g.1, g.2, by omega, by omega⟩
      congr 1
      unfold lowI
      apply UInt8.toNat_inj.1
      simp
      omega
    · cases h'
theorem be_val4 (a b c d : UInt8) : beI (val4 a b c d : Int) = [a, b, c, d] := by
  have ha := a.toNat_lt
  have hb := b.toNat_lt
  have hc := c.toNat_lt
  have hd := d.toNat_lt
  unfold beI be4 val4
  simp only [List.cons.injEq, and_true]
  refine ⟨?_, ?_, ?_, ?_⟩ <;> (apply UInt8.toNat_inj.1; simp; omega)
theorem numP_some {lo n : Int} {l r : List UInt8} (h : numP lo l = some (n, r)) : l = beI n ++ r ∧ lo ≤ n ∧ Num n := by
  match l, h with
  | [], h => cases h
  | [_], h => cases h
  | [_, _], h => cases h
  | [_, _, _], h => cases h
  | a :: b :: c :: d :: l, h =>
    have h' : (if lo ≤ (val4 a b c d : Int) ∧ (val4 a b c d : Int) ≤ 2147483647 then some ((val4 a b c d : Int), l) else none) = some (n, r) := h
    split at h'
    · rename_i g
      simp only [Option.some.injEq, Prod.mk.injEq] at h'
      obtain ⟨rfl, rfl⟩ := h'
      exact ⟨by rw [be_val4]; rfl, g.1, by omega, g.2⟩
    · cases h'
theorem txtP_some {n : Nat} {l r : List UInt8} {a : ByteArray} (h : txtP n l = some (a, r)) : l = a.data.toList ++ r ∧ a.size = n := by
  unfold txtP at h
  split at h
  · rename_i g
    simp only [Option.some.injEq, Prod.mk.injEq] at h
    obtain ⟨rfl, rfl⟩ := h
    refine ⟨by simp, ?_⟩
    show (List.take n l).toArray.size = n
    simp [g]
  · cases h
theorem manyP_some {α : Type} {p : List UInt8 → Option (α × List UInt8)} {f : α → List UInt8} {ok : α → Prop} (h : ∀ l x r, p l = some (x, r) → l = f x ++ r ∧ ok x) :
    ∀ (n : Nat) (l : List UInt8) (xs : List α) (r : List UInt8), manyP p n l = some (xs, r) → l = xs.flatMap f ++ r ∧ xs.length = n ∧ ∀ x ∈ xs, ok x := by
  intro n
  induction n with
  | zero => intro l xs r hl; simp only [manyP, Option.some.injEq, Prod.mk.injEq] at hl; obtain ⟨rfl, rfl⟩ := hl; simp
  | succ n ih =>
    intro l xs r hl
    simp only [manyP] at hl
    obtain ⟨⟨x, l1⟩, h1, h2⟩ := Option.bind_eq_some_iff.1 hl
    obtain ⟨⟨ys, l2⟩, h3, h4⟩ := Option.map_eq_some_iff.1 h2
    simp only [Prod.mk.injEq] at h4
    obtain ⟨rfl, rfl⟩ := h4
    obtain ⟨e1, o1⟩ := h _ _ _ h1
    obtain ⟨e2, e3, o2⟩ := ih _ _ _ h3
    simp only at e2
    refine ⟨by rw [e1, e2]; simp, by simp [e3], fun y hy => ?_⟩
    rcases List.mem_cons.1 hy with rfl | hy
    · exact o1
    · exact o2 y hy
theorem row3P_some {l r : List UInt8} {x : Row3} (h : row3P l = some (x, r)) : l = enc3 x ++ r ∧ Row3Ok x := by
  unfold row3P at h
  obtain ⟨⟨a, l1⟩, h1, h⟩ := Option.bind_eq_some_iff.1 h
  obtain ⟨⟨b, l2⟩, h2, h⟩ := Option.bind_eq_some_iff.1 h
  obtain ⟨⟨c, l3⟩, h3, h⟩ := Option.map_eq_some_iff.1 h
  simp only [Prod.mk.injEq] at h h2 h3
  obtain ⟨rfl, rfl⟩ := h
  obtain ⟨e1, g1, n1⟩ := numP_some h1
  obtain ⟨e2, g2, n2⟩ := numP_some h2
  obtain ⟨e3, g3, n3⟩ := numP_some h3
  exact ⟨by rw [e1, e2, e3]; simp [enc3], g1, n1, n2, n3⟩
theorem row2P_some {l r : List UInt8} {x : Row2} (h : row2P l = some (x, r)) : l = enc2 x ++ r ∧ Row2Ok x := by
  unfold row2P at h
  obtain ⟨⟨a, l1⟩, h1, h⟩ := Option.bind_eq_some_iff.1 h
  obtain ⟨⟨b, l2⟩, h2, h⟩ := Option.map_eq_some_iff.1 h
  simp only [Prod.mk.injEq] at h h2
  obtain ⟨rfl, rfl⟩ := h
  obtain ⟨e1, g1, g2, g3, g4⟩ := smallP_some h1
  obtain ⟨e2, g5, n2⟩ := numP_some h2
  exact ⟨by rw [e1, e2]; simp [enc2], ⟨g1, g2⟩, n2⟩
/-- What is read may be, and its bytes stand there. -/
theorem recP_some {l r : List UInt8} {x : Rc} (h : recP l = some (x, r)) : May x ∧ l = lay x ++ r := by
  unfold recP at h
  obtain ⟨⟨k, l0⟩, hk, h⟩ := Option.bind_eq_some_iff.1 h
  obtain ⟨e0, k1, k2, k3, k4⟩ := smallP_some hk
  simp only at h
  split at h
  · rename_i k5
    obtain ⟨⟨t, l1⟩, ht, h⟩ := Option.bind_eq_some_iff.1 h
    obtain ⟨⟨p, l2⟩, hp, h⟩ := Option.bind_eq_some_iff.1 h
    obtain ⟨e1, t1, nt⟩ := numP_some ht
    obtain ⟨e2, p1, np⟩ := numP_some hp
    simp only at e2
    split at h
    · rename_i k6
      subst k6
      obtain ⟨⟨n, l3⟩, hn, h⟩ := Option.bind_eq_some_iff.1 h
      obtain ⟨e3, n1, nn⟩ := numP_some hn
      unfold changeP at h
      obtain ⟨⟨pg, l4⟩, hpg, h⟩ := Option.bind_eq_some_iff.1 h
      obtain ⟨⟨o, l5⟩, ho, h⟩ := Option.bind_eq_some_iff.1 h
      obtain ⟨⟨m, l6⟩, hm, h⟩ := Option.bind_eq_some_iff.1 h
      rw [if_neg (by show ¬ (2 : Int) = 1; decide)] at h
      obtain ⟨⟨a, l7⟩, ha, h⟩ := Option.map_eq_some_iff.1 h
      simp only [Prod.mk.injEq] at h
      obtain ⟨rfl, rfl⟩ := h
      obtain ⟨e4, a1, a2, a3, a4⟩ := smallP_some hpg
      obtain ⟨e5, b1, b2, b3, b4⟩ := smallP_some ho
      obtain ⟨e6, c1, c2, c3, c4⟩ := smallP_some hm
      obtain ⟨e7, d1⟩ := txtP_some ha
      simp only at e3 e4 e5 e6 e7 d1 c2
      refine ⟨May.und t1 nt np nn ⟨⟨a1, a2⟩, b1, ⟨by omega, by omega⟩, by omega⟩, ?_⟩
      have hm' : m = (a.size : Int) := by omega
      rw [e0, e1, e2, e3, e4, e5, e6, e7, hm']
      simp [lay, Rc.nil]
    · split at h
      · rename_i k6 k7
        subst k7
        unfold changeP at h
        obtain ⟨⟨pg, l4⟩, hpg, h⟩ := Option.bind_eq_some_iff.1 h
        obtain ⟨⟨o, l5⟩, ho, h⟩ := Option.bind_eq_some_iff.1 h
        obtain ⟨⟨m, l6⟩, hm, h⟩ := Option.bind_eq_some_iff.1 h
        rw [if_pos rfl] at h
        obtain ⟨⟨b, l7⟩, hb, h⟩ := Option.bind_eq_some_iff.1 h
        obtain ⟨⟨a, l8⟩, ha, h⟩ := Option.map_eq_some_iff.1 h
        simp only [Prod.mk.injEq] at h
        obtain ⟨rfl, rfl⟩ := h
        obtain ⟨e4, a1, a2, a3, a4⟩ := smallP_some hpg
        obtain ⟨e5, b1, b2, b3, b4⟩ := smallP_some ho
        obtain ⟨e6, c1, c2, c3, c4⟩ := smallP_some hm
        obtain ⟨e7, d1⟩ := txtP_some hb
        obtain ⟨e8, d2⟩ := txtP_some ha
        simp only at e4 e5 e6 e7 e8 d1 d2 c2
        refine ⟨May.upd t1 nt np ⟨⟨a1, a2⟩, b1, ⟨by omega, by omega⟩, by omega⟩ (by omega), ?_⟩
        have hm' : m = (a.size : Int) := by omega
        rw [e0, e1, e2, e4, e5, e6, e7, e8, hm']
        simp [lay]
      · rename_i k6 k7
        simp only [Option.some.injEq, Prod.mk.injEq] at h
        obtain ⟨rfl, rfl⟩ := h
        refine ⟨May.com (by omega) t1 nt np, ?_⟩
        rw [e0, e1, e2]
        simp [lay, k5, k6, k7, show ¬ k = 6 by omega]
  · rename_i k5
    split at h
    · rename_i k6
      subst k6
      unfold tablesP at h
      obtain ⟨⟨b, l1⟩, hb, h⟩ := Option.bind_eq_some_iff.1 h
      obtain ⟨⟨n, l2⟩, hn, h⟩ := Option.bind_eq_some_iff.1 h
      obtain ⟨⟨ts, l3⟩, ht, h⟩ := Option.bind_eq_some_iff.1 h
      obtain ⟨⟨m, l4⟩, hm, h⟩ := Option.bind_eq_some_iff.1 h
      obtain ⟨⟨ps, l5⟩, hp, h⟩ := Option.map_eq_some_iff.1 h
      simp only [Prod.mk.injEq] at h
      obtain ⟨rfl, rfl⟩ := h
      obtain ⟨e1, b1, nb⟩ := numP_some hb
      obtain ⟨e2, n1, n2, n3, n4⟩ := smallP_some hn
      obtain ⟨e3, t1, t2⟩ := manyP_some (fun _ _ _ => row3P_some) _ _ _ _ ht
      obtain ⟨e4, m1, m2, m3, m4⟩ := smallP_some hm
      obtain ⟨e5, p1, p2⟩ := manyP_some (fun _ _ _ => row2P_some) _ _ _ _ hp
      simp only at e1 e2 e3 e4 e5 t1 p1 n1 n2 m1 m2
      refine ⟨May.tab nb (by omega) (by omega) t2 p2, ?_⟩
      have hn' : n = (ts.length : Int) := by omega
      have hm' : m = (ps.length : Int) := by omega
      rw [e0, e1, e2, e3, e4, e5, hn', hm']
      simp [lay, encTab]
    · rename_i k6
      obtain rfl : k = 5 := by omega
      simp only [Option.some.injEq, Prod.mk.injEq] at h
      obtain ⟨rfl, rfl⟩ := h
      refine ⟨May.beg, ?_⟩
      rw [e0]
      simp [lay]
section
variable {l l1 l2 l3 : List UInt8} {a b c : Int}
theorem row3_none1 (h : numP 1 l = none) : row3P l = none := by unfold row3P; rw [h]; rfl
theorem row3_none2 (h : numP 1 l = some (a, l1)) (h2 : numP 0 l1 = none) : row3P l = none := by unfold row3P; rw [h, Option.bind_some, h2]; rfl
theorem row3_none3 (h : numP 1 l = some (a, l1)) (h2 : numP 0 l1 = some (b, l2)) (h3 : numP 0 l2 = none) : row3P l = none := by unfold row3P; rw [h, Option.bind_some, h2, Option.bind_some, h3]; rfl
theorem row3_some (h : numP 1 l = some (a, l1)) (h2 : numP 0 l1 = some (b, l2)) (h3 : numP 0 l2 = some (c, l3)) : row3P l = some ((a, b, c), l3) := by unfold row3P; rw [h, Option.bind_some, h2, Option.bind_some, h3]; rfl
theorem row2_none1 (h : smallP 0 7 l = none) : row2P l = none := by unfold row2P; rw [h]; rfl
theorem row2_none2 (h : smallP 0 7 l = some (a, l1)) (h2 : numP 0 l1 = none) : row2P l = none := by unfold row2P; rw [h, Option.bind_some, h2]; rfl
theorem row2_some (h : smallP 0 7 l = some (a, l1)) (h2 : numP 0 l1 = some (b, l2)) : row2P l = some ((a, b), l2) := by unfold row2P; rw [h, Option.bind_some, h2]; rfl
end
theorem changeP_rows {r r' : Rc} {l l' : List UInt8} (h : changeP r l = some (r', l')) : r'.txns = r.txns ∧ r'.pages = r.pages := by
  unfold changeP at h
  obtain ⟨pg, _, h⟩ := Option.bind_eq_some_iff.1 h
  obtain ⟨o, _, h⟩ := Option.bind_eq_some_iff.1 h
  obtain ⟨n, _, h⟩ := Option.bind_eq_some_iff.1 h
  split at h
  · obtain ⟨b, _, h⟩ := Option.bind_eq_some_iff.1 h
    obtain ⟨a, _, h⟩ := Option.map_eq_some_iff.1 h
    simp only [Prod.mk.injEq] at h
    obtain ⟨rfl, _⟩ := h
    exact ⟨rfl, rfl⟩
  · obtain ⟨a, _, h⟩ := Option.map_eq_some_iff.1 h
    simp only [Prod.mk.injEq] at h
    obtain ⟨rfl, _⟩ := h
    exact ⟨rfl, rfl⟩
/-- Rows that are read one by one: xs are read, l stands behind them. -/
def Midst {α : Type} (p : List UInt8 → Option (α × List UInt8)) (m : Nat) (l0 : List UInt8) (xs : List α) (l : List UInt8) : Prop :=
  xs.length ≤ m ∧ manyP p m l0 = (manyP p (m - xs.length) l).map fun y => (xs ++ y.1, y.2)
namespace Midst
variable {α : Type} {p : List UInt8 → Option (α × List UInt8)} {m : Nat} {l0 l l' : List UInt8} {xs : List α} {x : α}
theorem start (p : List UInt8 → Option (α × List UInt8)) (m : Nat) (l0 : List UInt8) : Midst p m l0 [] l0 := ⟨Nat.zero_le _, by show _ = Option.map _ (manyP p (m - 0) l0); rw [Nat.sub_zero]; cases manyP p m l0 <;> rfl⟩
theorem some (h : Midst p m l0 xs l) (hlt : xs.length < m) (hx : p l = .some (x, l')) : Midst p m l0 (xs ++ [x]) l' := by
  refine ⟨by simp; omega, ?_⟩
  rw [h.2, show m - xs.length = (m - (xs ++ [x]).length) + 1 from by simp; omega]
  simp only [manyP, hx, Option.bind_some, Option.map_map]
  congr 1
  funext y
  simp
theorem none (h : Midst p m l0 xs l) (hlt : xs.length < m) (hx : p l = .none) : manyP p m l0 = .none := by
  rw [h.2, show m - xs.length = (m - xs.length - 1) + 1 from by omega]
  simp only [manyP, hx, Option.bind_none, Option.map_none]
theorem done (h : Midst p m l0 xs l) (he : xs.length = m) : manyP p m l0 = .some (xs, l) := by
  rw [h.2, he, Nat.sub_self]
  simp [manyP]
end Midst
/-- Unlike records that may be have unlike bytes; none is a beginning of another one. -/
theorem lay_inj {r x : Rc} (hr : May r) (hx : May x) {l m : List UInt8} (h : lay r ++ l = lay x ++ m) : r = x ∧ l = m := by
  have h1 := recP_lay hr l
  rw [h, recP_lay hx m] at h1
  simp only [Option.some.injEq, Prod.mk.injEq] at h1
  exact ⟨h1.1.symm, h1.2.symm⟩
/-- A record that is small enough to be laid. -/
structure Fit (r : Rc) : Prop where
  before : r.before.size ≤ 300
  after : r.after.size ≤ 300
  txns : r.txns.length ≤ 50
  pages : r.pages.length ≤ 50
end Go.Proofs.Ytpcfhpffbogjmaa
