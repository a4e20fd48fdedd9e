/- Texts that belong together, joined: Rec, Only, RecM, RecG, RecLong, RecI. -/
import Derived.Test.YtbplgbkbggmaeaaGreatKbase
import Derived.Lib.AppendStr
import Derived.Laws.Shifts
import Derived.Laws.StructEq
import Derived.Deep.QuietTactic
import Derived.BigQuiet
namespace Go.Proofs.YtbplgbkbggmaeaaGreat
open Go.RowKit
def beI (n : Int) : List UInt8 := be4 (n % 4294967296).toNat
def lowI (n : Int) : UInt8 := UInt8.ofNat (n % 256).toNat
theorem beI_len (n : Int) : (beI n).length = 4 := rfl
abbrev Row3 := Int × Int × Int
abbrev Row2 := Int × Int
structure Rc where
 kind : Int
 txn : Int
 page : Int
 off : Int
 prev : Int
 next : Int
 beg : Int
 before : ByteArray
 after : ByteArray
 txns : List Row3
 pages : List Row2
deriving DecidableEq
namespace Rc
theorem ext11 {a b : Rc} (h1 : a.kind = b.kind) (h2 : a.txn = b.txn) (h3 : a.page = b.page) (h4 : a.off = b.off) (h5 : a.prev = b.prev) (h6 : a.next = b.next) (h7 : a.beg = b.beg) (h8 : a.before = b.before) (h9 : a.after = b.after) (h10 : a.txns = b.txns) (h11 : a.pages = b.pages) : a = b := by
 cases a; cases b; simp only at h1 h2 h3 h4 h5 h6 h7 h8 h9 h10 h11; simp only [h1, h2, h3, h4, h5, h6, h7, h8, h9, h10, h11]
def nil : Rc := ⟨0, 0, 0, 0, 0, 0, 0, ⟨#[]⟩, ⟨#[]⟩, [], []⟩
def upd (t p pg o : Int) (b a : ByteArray) : Rc := ⟨1, t, pg, o, p, 0, 0, b, a, [], []⟩
def und (t p n pg o : Int) (a : ByteArray) : Rc := ⟨2, t, pg, o, p, n, 0, ⟨#[]⟩, a, [], []⟩
def com (k t p : Int) : Rc := ⟨k, t, 0, 0, p, 0, 0, ⟨#[]⟩, ⟨#[]⟩, [], []⟩
def tab (b : Int) (ts : List Row3) (ps : List Row2) : Rc := ⟨6, 0, 0, 0, 0, 0, b, ⟨#[]⟩, ⟨#[]⟩, ts, ps⟩
def begin5 : Rc := com 5 0 0
end Rc
def Num (n : Int) : Prop := 0 ≤ n ∧ n ≤ 2147483647
instance (n : Int) : Decidable (Num n) := inferInstanceAs (Decidable (_ ∧ _))
def Spot (pg o : Int) (a : ByteArray) : Prop := (0 ≤ pg ∧ pg ≤ 7) ∧ 0 ≤ o ∧ (1 ≤ a.size ∧ a.size ≤ 16) ∧ o + a.size ≤ 220
instance (pg o : Int) (a : ByteArray) : Decidable (Spot pg o a) := inferInstanceAs (Decidable (_ ∧ _))
def Row3Ok (x : Row3) : Prop := 1 ≤ x.1 ∧ Num x.1 ∧ Num x.2.1 ∧ Num x.2.2
instance (x : Row3) : Decidable (Row3Ok x) := inferInstanceAs (Decidable (_ ∧ _))
def Row2Ok (x : Row2) : Prop := (0 ≤ x.1 ∧ x.1 ≤ 7) ∧ Num x.2
instance (x : Row2) : Decidable (Row2Ok x) := inferInstanceAs (Decidable (_ ∧ _))
inductive May : Rc → Prop
 | upd {t p pg o : Int} {b a : ByteArray} (ht : 1 ≤ t) (hn : Num t) (hp : Num p) (hs : Spot pg o a) (hb : b.size = a.size) : May (.upd t p pg o b a)
 | und {t p n pg o : Int} {a : ByteArray} (ht : 1 ≤ t) (hn : Num t) (hp : Num p) (hx : Num n) (hs : Spot pg o a) : May (.und t p n pg o a)
 | com {k t p : Int} (hk : k = 3 ∨ k = 4) (ht : 1 ≤ t) (hn : Num t) (hp : Num p) : May (.com k t p)
 | beg : May .begin5
 | tab {b : Int} {ts : List Row3} {ps : List Row2} (hb : Num b) (ht : ts.length ≤ 4) (hp : ps.length ≤ 8) (h3 : ∀ x ∈ ts, Row3Ok x) (h2 : ∀ x ∈ ps, Row2Ok x) : May (.tab b ts ps)
def enc3 (x : Row3) : List UInt8 := beI x.1 ++ beI x.2.1 ++ beI x.2.2
def enc2 (x : Row2) : List UInt8 := lowI x.1 :: beI x.2
def encTab (r : Rc) : List UInt8 := beI r.beg ++ [lowI r.txns.length] ++ r.txns.flatMap enc3 ++ [lowI r.pages.length] ++ r.pages.flatMap enc2
def lay (r : Rc) : List UInt8 :=
 [lowI r.kind] ++ (if r.kind ≤ 4 then beI r.txn ++ beI r.prev else []) ++
 (if r.kind = 2 then beI r.next else []) ++
 (if r.kind = 1 ∨ r.kind = 2 then [lowI r.page, lowI r.off, lowI r.after.size] ++ r.before.data.toList ++ r.after.data.toList else []) ++
 (if r.kind = 6 then encTab r else [])
def smallP (lo hi : Int) : List UInt8 → Option (Int × List UInt8)
 | [] => none
 | b :: l => if lo ≤ (b.toNat : Int) ∧ (b.toNat : Int) ≤ hi then some ((b.toNat : Int), l) else none
def val4 (a b c d : UInt8) : Nat := a.toNat * 16777216 + b.toNat * 65536 + c.toNat * 256 + d.toNat
def numP (lo : Int) : List UInt8 → Option (Int × List UInt8)
 | a :: b :: c :: d :: l => if lo ≤ (val4 a b c d : Int) ∧ (val4 a b c d : Int) ≤ 2147483647 then some ((val4 a b c d : Int), l) else none
 | _ => none
def txtP (n : Nat) (l : List UInt8) : Option (ByteArray × List UInt8) := if n ≤ l.length then some (⟨(l.take n).toArray⟩, l.drop n) else none
def manyP {α : Type} (p : List UInt8 → Option (α × List UInt8)) : Nat → List UInt8 → Option (List α × List UInt8)
 | 0, l => some ([], l)
 | n + 1, l => (p l).bind fun x => (manyP p n x.2).map fun y => (x.1 :: y.1, y.2)
def row3P (l : List UInt8) : Option (Row3 × List UInt8) :=
 (numP 1 l).bind fun a => (numP 0 a.2).bind fun b => (numP 0 b.2).map fun c => ((a.1, b.1, c.1), c.2)
def row2P (l : List UInt8) : Option (Row2 × List UInt8) :=
 (smallP 0 7 l).bind fun a => (numP 0 a.2).map fun b => ((a.1, b.1), b.2)
def changeP (r : Rc) (l : List UInt8) : Option (Rc × List UInt8) :=
 (smallP 0 7 l).bind fun pg => (smallP 0 219 pg.2).bind fun o => (smallP 1 (min 16 (220 - o.1)) o.2).bind fun n =>
   if r.kind = 1 then (txtP n.1.toNat n.2).bind fun b => (txtP n.1.toNat b.2).map fun a => ({ r with page := pg.1, off := o.1, before := b.1, after := a.1 }, a.2)
   else (txtP n.1.toNat n.2).map fun a => ({ r with page := pg.1, off := o.1, after := a.1 }, a.2)
def tablesP (r : Rc) (l : List UInt8) : Option (Rc × List UInt8) :=
 (numP 0 l).bind fun b => (smallP 0 4 b.2).bind fun n => (manyP row3P n.1.toNat n.2).bind fun ts =>
   (smallP 0 8 ts.2).bind fun m => (manyP row2P m.1.toNat m.2).map fun ps => ({ r with beg := b.1, txns := ts.1, pages := ps.1 }, ps.2)
def recP (l : List UInt8) : Option (Rc × List UInt8) :=
 (smallP 1 6 l).bind fun k =>
   if k.1 ≤ 4 then (numP 1 k.2).bind fun t => (numP 0 t.2).bind fun p =>
     if k.1 = 2 then (numP 0 p.2).bind fun n => changeP { Rc.nil with kind := k.1, txn := t.1, prev := p.1, next := n.1 } n.2
     else if k.1 = 1 then changeP { Rc.nil with kind := k.1, txn := t.1, prev := p.1 } p.2
     else some ({ Rc.nil with kind := k.1, txn := t.1, prev := p.1 }, p.2)
   else if k.1 = 6 then tablesP { Rc.nil with kind := k.1 } k.2
   else some ({ Rc.nil with kind := k.1 }, k.2)
theorem lowI_toNat {n : Int} (h : 0 ≤ n ∧ n ≤ 255) : ((lowI n).toNat : Int) = n := by
 unfold lowI; simp; omega
theorem smallP_low {lo hi n : Int} (h : lo ≤ n ∧ n ≤ hi) (h2 : 0 ≤ n ∧ n ≤ 255) (l : List UInt8) : smallP lo hi (lowI n :: l) = some (n, l) := by
 show (if _ then _ else _) = _
 rw [lowI_toNat h2, if_pos h]
theorem val4_be {n : Nat} (h : n < 4294967296) : val4 (UInt8.ofNat (n / 16777216)) (UInt8.ofNat (n / 65536)) (UInt8.ofNat (n / 256)) (UInt8.ofNat n) = n := by
 unfold val4; simp; omega
theorem numP_be {lo n : Int} (h : lo ≤ n) (h2 : Num n) (l : List UInt8) : numP lo (beI n ++ l) = some (n, l) := by
 unfold Num at h2
 show (if _ then _ else _) = _
 have e : ((val4 (UInt8.ofNat ((n % 4294967296).toNat / 16777216)) (UInt8.ofNat ((n % 4294967296).toNat / 65536)) (UInt8.ofNat ((n % 4294967296).toNat / 256)) (UInt8.ofNat (n % 4294967296).toNat) : Nat) : Int) = n := by
   rw [val4_be (by omega)]; omega
 rw [e, if_pos ⟨h, h2.2⟩]
 rfl
theorem txtP_app (a : ByteArray) (l : List UInt8) : txtP a.size (a.data.toList ++ l) = some (a, l) := by
 unfold txtP
 have e : a.data.toList.length = a.size := rfl
 rw [if_pos (by rw [List.length_append, e]; omega), ← e, List.take_left' rfl, List.drop_left' rfl]
theorem manyP_app {α : Type} {p : List UInt8 → Option (α × List UInt8)} {f : α → List UInt8} (xs : List α) (h : ∀ x ∈ xs, ∀ l, p (f x ++ l) = some (x, l)) (l : List UInt8) : manyP p xs.length (xs.flatMap f ++ l) = some (xs, l) := by
 induction xs with
 | nil => rfl
 | cons x xs ih =>
   simp only [List.flatMap_cons, List.length_cons, manyP, List.append_assoc]
   rw [h x List.mem_cons_self, Option.bind_some, ih fun y hy => h y (List.mem_cons_of_mem _ hy)]
   rfl
theorem row3P_app {x : Row3} (h : Row3Ok x) (l : List UInt8) : row3P (enc3 x ++ l) = some (x, l) := by
 obtain ⟨h0, h1, h2, h3⟩ := h
 unfold row3P enc3
 simp only [List.append_assoc]
 rw [numP_be h0 h1, Option.bind_some, numP_be h2.1 h2, Option.bind_some, numP_be h3.1 h3]
 rfl
theorem row2P_app {x : Row2} (h : Row2Ok x) (l : List UInt8) : row2P (enc2 x ++ l) = some (x, l) := by
 obtain ⟨h0, h1⟩ := h
 unfold row2P enc2
 simp only [List.cons_append]
 rw [smallP_low h0 ⟨h0.1, by omega⟩, Option.bind_some, numP_be h1.1 h1]
 rfl
theorem recP_lay {r : Rc} (h : May r) (l : List UInt8) : recP (lay r ++ l) = some (r, l) := by
 cases h with
 | @upd t p pg o b a ht hn hp hs hb =>
   have k4 : (1 : Int) ≤ 4 := by decide
   obtain ⟨h1, h2, h3, h4⟩ := hs
   have e : lay (.upd t p pg o b a) ++ l = lowI 1 :: (beI t ++ (beI p ++ (lowI pg :: lowI o :: lowI a.size :: (b.data.toList ++ (a.data.toList ++ l))))) := by
     simp [lay, Rc.upd]
   rw [e]
   unfold recP changeP
   rw [smallP_low (by omega) (by omega), Option.bind_some, if_pos k4, numP_be ht hn, Option.bind_some, numP_be hp.1 hp, Option.bind_some, if_neg (by show ¬ (1 : Int) = 2; decide), if_pos rfl,
     smallP_low h1 (by omega), Option.bind_some, smallP_low (by omega) (by omega), Option.bind_some, smallP_low (by omega) (by omega), Option.bind_some, if_pos rfl]
   simp only [Int.toNat_natCast]
   rw [← hb, txtP_app, Option.bind_some, hb, txtP_app]
   rfl
 | @und t p n pg o a ht hn hp hx hs =>
   have k4 : (2 : Int) ≤ 4 := by decide
   obtain ⟨h1, h2, h3, h4⟩ := hs
   have e : lay (.und t p n pg o a) ++ l = lowI 2 :: (beI t ++ (beI p ++ (beI n ++ (lowI pg :: lowI o :: lowI a.size :: (a.data.toList ++ l))))) := by
     simp [lay, Rc.und]
   rw [e]
   unfold recP changeP
   rw [smallP_low (by omega) (by omega), Option.bind_some, if_pos k4, numP_be ht hn, Option.bind_some, numP_be hp.1 hp, Option.bind_some, if_pos rfl, numP_be hx.1 hx, Option.bind_some,
     smallP_low h1 (by omega), Option.bind_some, smallP_low (by omega) (by omega), Option.bind_some, smallP_low (by omega) (by omega), Option.bind_some, if_neg (by show ¬ (2 : Int) = 1; decide)]
   simp only [Int.toNat_natCast]
   rw [txtP_app]
   rfl
 | @com k t p hk ht hn hp =>
   have e : lay (.com k t p) ++ l = lowI k :: (beI t ++ (beI p ++ l)) := by
     rcases hk with rfl | rfl <;> simp [lay, Rc.com]
   rw [e]
   unfold recP
   rw [smallP_low (by omega) (by omega), Option.bind_some, if_pos (by show k ≤ 4; omega), numP_be ht hn, Option.bind_some, numP_be hp.1 hp, Option.bind_some, if_neg (by show ¬ k = 2; omega), if_neg (by show ¬ k = 1; omega)]
   rfl
 | beg =>
   have e : lay .begin5 ++ l = lowI 5 :: l := by simp [lay, Rc.begin5, Rc.com]
   rw [e]
   unfold recP
   rw [smallP_low (by omega) (by omega), Option.bind_some, if_neg (by show ¬ (5 : Int) ≤ 4; decide), if_neg (by show ¬ (5 : Int) = 6; decide)]
   rfl
 | @tab b ts ps hb ht hp h3 h2 =>
   have e : lay (.tab b ts ps) ++ l = lowI 6 :: (beI b ++ (lowI ts.length :: (ts.flatMap enc3 ++ (lowI ps.length :: (ps.flatMap enc2 ++ l))))) := by
     simp [lay, Rc.tab, encTab]
   rw [e]
   unfold recP tablesP
   rw [smallP_low (by omega) (by omega), Option.bind_some, if_neg (by show ¬ (6 : Int) ≤ 4; decide), if_pos rfl, numP_be hb.1 hb, Option.bind_some, smallP_low (by omega) (by omega), Option.bind_some]
   simp only [Int.toNat_natCast]
   rw [manyP_app ts (fun x hx => row3P_app (h3 x hx)), Option.bind_some, smallP_low (by omega) (by omega), Option.bind_some]
   simp only [Int.toNat_natCast]
   rw [manyP_app ps (fun x hx => row2P_app (h2 x hx))]
   rfl
theorem smallP_some {lo hi n : Int} {l r : List UInt8} (h : smallP lo hi l = some (n, r)) : l = lowI n :: r ∧ lo ≤ n ∧ n ≤ hi ∧ 0 ≤ n ∧ n ≤ 255 := by
 cases l with
 | nil => cases h
 | cons b l =>
   have h' : (if lo ≤ (b.toNat : Int) ∧ (b.toNat : Int) ≤ hi then some ((b.toNat : Int), l) else none) = some (n, r) := h
   have hb := b.toNat_lt
   split at h'
   · rename_i g
     simp only [Option.some.injEq, Prod.mk.injEq] at h'
     obtain ⟨rfl, rfl⟩ := h'
     refine ⟨?_, g.1, g.2, by omega, by omega⟩
     congr 1
     unfold lowI
     apply UInt8.toNat_inj.1
     simp
     omega
   · cases h'
theorem be_val4 (a b c d : UInt8) : beI (val4 a b c d : Int) = [a, b, c, d] := by
 have ha := a.toNat_lt
 have hb := b.toNat_lt
 have hc := c.toNat_lt
 have hd := d.toNat_lt
 unfold beI be4 val4
 simp only [List.cons.injEq, and_true]
 refine ⟨?_, ?_, ?_, ?_⟩ <;> (apply UInt8.toNat_inj.1; simp; omega)
theorem numP_some {lo n : Int} {l r : List UInt8} (h : numP lo l = some (n, r)) : l = beI n ++ r ∧ lo ≤ n ∧ Num n := by
 match l, h with
 | [], h => cases h
 | [_], h => cases h
 | [_, _], h => cases h
 | [_, _, _], h => cases h
 | a :: b :: c :: d :: l, h =>
   have h' : (if lo ≤ (val4 a b c d : Int) ∧ (val4 a b c d : Int) ≤ 2147483647 then some ((val4 a b c d : Int), l) else none) = some (n, r) := h
   split at h'
   · rename_i g
     simp only [Option.some.injEq, Prod.mk.injEq] at h'
     obtain ⟨rfl, rfl⟩ := h'
     exact ⟨by rw [be_val4]; rfl, g.1, by omega, g.2⟩
   · cases h'
theorem txtP_some {n : Nat} {l r : List UInt8} {a : ByteArray} (h : txtP n l = some (a, r)) : l = a.data.toList ++ r ∧ a.size = n := by
 unfold txtP at h
 split at h
 · rename_i g
   simp only [Option.some.injEq, Prod.mk.injEq] at h
   obtain ⟨rfl, rfl⟩ := h
   refine ⟨by simp, ?_⟩
   show (List.take n l).toArray.size = n
   simp [g]
 · cases h
theorem manyP_some {α : Type} {p : List UInt8 → Option (α × List UInt8)} {f : α → List UInt8} {ok : α → Prop} (h : ∀ l x r, p l = some (x, r) → l = f x ++ r ∧ ok x) :
   ∀ (n : Nat) (l : List UInt8) (xs : List α) (r : List UInt8), manyP p n l = some (xs, r) → l = xs.flatMap f ++ r ∧ xs.length = n ∧ ∀ x ∈ xs, ok x := by
 intro n
 induction n with
 | zero => intro l xs r hl; simp only [manyP, Option.some.injEq, Prod.mk.injEq] at hl; obtain ⟨rfl, rfl⟩ := hl; simp
 | succ n ih =>
   intro l xs r hl
   simp only [manyP] at hl
   obtain ⟨⟨x, l1⟩, h1, h2⟩ := Option.bind_eq_some_iff.1 hl
   obtain ⟨⟨ys, l2⟩, h3, h4⟩ := Option.map_eq_some_iff.1 h2
   simp only [Prod.mk.injEq] at h4
   obtain ⟨rfl, rfl⟩ := h4
   obtain ⟨e1, o1⟩ := h _ _ _ h1
   obtain ⟨e2, e3, o2⟩ := ih _ _ _ h3
   simp only at e2
   refine ⟨by rw [e1, e2]; simp, by simp [e3], fun y hy => ?_⟩
   rcases List.mem_cons.1 hy with rfl | hy
   · exact o1
   · exact o2 y hy
theorem row3P_some {l r : List UInt8} {x : Row3} (h : row3P l = some (x, r)) : l = enc3 x ++ r ∧ Row3Ok x := by
 unfold row3P at h
 obtain ⟨⟨a, l1⟩, h1, h⟩ := Option.bind_eq_some_iff.1 h
 obtain ⟨⟨b, l2⟩, h2, h⟩ := Option.bind_eq_some_iff.1 h
 obtain ⟨⟨c, l3⟩, h3, h⟩ := Option.map_eq_some_iff.1 h
 simp only [Prod.mk.injEq] at h h2 h3
 obtain ⟨rfl, rfl⟩ := h
 obtain ⟨e1, g1, n1⟩ := numP_some h1
 obtain ⟨e2, g2, n2⟩ := numP_some h2
 obtain ⟨e3, g3, n3⟩ := numP_some h3
 exact ⟨by rw [e1, e2, e3]; simp [enc3], g1, n1, n2, n3⟩
theorem row2P_some {l r : List UInt8} {x : Row2} (h : row2P l = some (x, r)) : l = enc2 x ++ r ∧ Row2Ok x := by
 unfold row2P at h
 obtain ⟨⟨a, l1⟩, h1, h⟩ := Option.bind_eq_some_iff.1 h
 obtain ⟨⟨b, l2⟩, h2, h⟩ := Option.map_eq_some_iff.1 h
 simp only [Prod.mk.injEq] at h h2
 obtain ⟨rfl, rfl⟩ := h
 obtain ⟨e1, g1, g2, g3, g4⟩ := smallP_some h1
 obtain ⟨e2, g5, n2⟩ := numP_some h2
 exact ⟨by rw [e1, e2]; simp [enc2], ⟨g1, g2⟩, n2⟩
theorem recP_some {l r : List UInt8} {x : Rc} (h : recP l = some (x, r)) : May x ∧ l = lay x ++ r := by
 unfold recP at h
 obtain ⟨⟨k, l0⟩, hk, h⟩ := Option.bind_eq_some_iff.1 h
 obtain ⟨e0, k1, k2, k3, k4⟩ := smallP_some hk
 simp only at h
 split at h
 · rename_i k5
   obtain ⟨⟨t, l1⟩, ht, h⟩ := Option.bind_eq_some_iff.1 h
   obtain ⟨⟨p, l2⟩, hp, h⟩ := Option.bind_eq_some_iff.1 h
   obtain ⟨e1, t1, nt⟩ := numP_some ht
   obtain ⟨e2, p1, np⟩ := numP_some hp
   simp only at e2
   split at h
   · rename_i k6
     subst k6
     obtain ⟨⟨n, l3⟩, hn, h⟩ := Option.bind_eq_some_iff.1 h
     obtain ⟨e3, n1, nn⟩ := numP_some hn
     unfold changeP at h
     obtain ⟨⟨pg, l4⟩, hpg, h⟩ := Option.bind_eq_some_iff.1 h
     obtain ⟨⟨o, l5⟩, ho, h⟩ := Option.bind_eq_some_iff.1 h
     obtain ⟨⟨m, l6⟩, hm, h⟩ := Option.bind_eq_some_iff.1 h
     rw [if_neg (by show ¬ (2 : Int) = 1; decide)] at h
     obtain ⟨⟨a, l7⟩, ha, h⟩ := Option.map_eq_some_iff.1 h
     simp only [Prod.mk.injEq] at h
     obtain ⟨rfl, rfl⟩ := h
     obtain ⟨e4, a1, a2, a3, a4⟩ := smallP_some hpg
     obtain ⟨e5, b1, b2, b3, b4⟩ := smallP_some ho
     obtain ⟨e6, c1, c2, c3, c4⟩ := smallP_some hm
     obtain ⟨e7, d1⟩ := txtP_some ha
     simp only at e3 e4 e5 e6 e7 d1 c2
     refine ⟨May.und t1 nt np nn ⟨⟨a1, a2⟩, b1, ⟨by omega, by omega⟩, by omega⟩, ?_⟩
     have hm' : m = (a.size : Int) := by omega
     rw [e0, e1, e2, e3, e4, e5, e6, e7, hm']
     simp [lay, Rc.nil]
   · split at h
     · rename_i k6 k7
       subst k7
       unfold changeP at h
       obtain ⟨⟨pg, l4⟩, hpg, h⟩ := Option.bind_eq_some_iff.1 h
       obtain ⟨⟨o, l5⟩, ho, h⟩ := Option.bind_eq_some_iff.1 h
       obtain ⟨⟨m, l6⟩, hm, h⟩ := Option.bind_eq_some_iff.1 h
       rw [if_pos rfl] at h
       obtain ⟨⟨b, l7⟩, hb, h⟩ := Option.bind_eq_some_iff.1 h
       obtain ⟨⟨a, l8⟩, ha, h⟩ := Option.map_eq_some_iff.1 h
       simp only [Prod.mk.injEq] at h
       obtain ⟨rfl, rfl⟩ := h
       obtain ⟨e4, a1, a2, a3, a4⟩ := smallP_some hpg
       obtain ⟨e5, b1, b2, b3, b4⟩ := smallP_some ho
       obtain ⟨e6, c1, c2, c3, c4⟩ := smallP_some hm
       obtain ⟨e7, d1⟩ := txtP_some hb
       obtain ⟨e8, d2⟩ := txtP_some ha
       simp only at e4 e5 e6 e7 e8 d1 d2 c2
       refine ⟨May.upd t1 nt np ⟨⟨a1, a2⟩, b1, ⟨by omega, by omega⟩, by omega⟩ (by omega), ?_⟩
       have hm' : m = (a.size : Int) := by omega
       rw [e0, e1, e2, e4, e5, e6, e7, e8, hm']
       simp [lay]
     · rename_i k6 k7
       simp only [Option.some.injEq, Prod.mk.injEq] at h
       obtain ⟨rfl, rfl⟩ := h
       refine ⟨May.com (by omega) t1 nt np, ?_⟩
       rw [e0, e1, e2]
       simp [lay, k5, k6, k7, show ¬ k = 6 by omega]
 · rename_i k5
   split at h
   · rename_i k6
     subst k6
     unfold tablesP at h
     obtain ⟨⟨b, l1⟩, hb, h⟩ := Option.bind_eq_some_iff.1 h
     obtain ⟨⟨n, l2⟩, hn, h⟩ := Option.bind_eq_some_iff.1 h
     obtain ⟨⟨ts, l3⟩, ht, h⟩ := Option.bind_eq_some_iff.1 h
     obtain ⟨⟨m, l4⟩, hm, h⟩ := Option.bind_eq_some_iff.1 h
     obtain ⟨⟨ps, l5⟩, hp, h⟩ := Option.map_eq_some_iff.1 h
     simp only [Prod.mk.injEq] at h
     obtain ⟨rfl, rfl⟩ := h
     obtain ⟨e1, b1, nb⟩ := numP_some hb
     obtain ⟨e2, n1, n2, n3, n4⟩ := smallP_some hn
     obtain ⟨e3, t1, t2⟩ := manyP_some (fun _ _ _ => row3P_some) _ _ _ _ ht
     obtain ⟨e4, m1, m2, m3, m4⟩ := smallP_some hm
     obtain ⟨e5, p1, p2⟩ := manyP_some (fun _ _ _ => row2P_some) _ _ _ _ hp
     simp only at e1 e2 e3 e4 e5 t1 p1 n1 n2 m1 m2
     refine ⟨May.tab nb (by omega) (by omega) t2 p2, ?_⟩
     have hn' : n = (ts.length : Int) := by omega
     have hm' : m = (ps.length : Int) := by omega
     rw [e0, e1, e2, e3, e4, e5, hn', hm']
     simp [lay, encTab]
   · rename_i k6
     obtain rfl : k = 5 := by omega
     simp only [Option.some.injEq, Prod.mk.injEq] at h
     obtain ⟨rfl, rfl⟩ := h
     refine ⟨May.beg, ?_⟩
     rw [e0]
     simp [lay]
section
variable {l l1 l2 l3 : List UInt8} {a b c : Int}
theorem row3_none1 (h : numP 1 l = none) : row3P l = none := by unfold row3P; rw [h]; rfl
theorem row3_none2 (h : numP 1 l = some (a, l1)) (h2 : numP 0 l1 = none) : row3P l = none := by unfold row3P; rw [h, Option.bind_some, h2]; rfl
theorem row3_none3 (h : numP 1 l = some (a, l1)) (h2 : numP 0 l1 = some (b, l2)) (h3 : numP 0 l2 = none) : row3P l = none := by unfold row3P; rw [h, Option.bind_some, h2, Option.bind_some, h3]; rfl
theorem row3_some (h : numP 1 l = some (a, l1)) (h2 : numP 0 l1 = some (b, l2)) (h3 : numP 0 l2 = some (c, l3)) : row3P l = some ((a, b, c), l3) := by unfold row3P; rw [h, Option.bind_some, h2, Option.bind_some, h3]; rfl
theorem row2_none1 (h : smallP 0 7 l = none) : row2P l = none := by unfold row2P; rw [h]; rfl
theorem row2_none2 (h : smallP 0 7 l = some (a, l1)) (h2 : numP 0 l1 = none) : row2P l = none := by unfold row2P; rw [h, Option.bind_some, h2]; rfl
theorem row2_some (h : smallP 0 7 l = some (a, l1)) (h2 : numP 0 l1 = some (b, l2)) : row2P l = some ((a, b), l2) := by unfold row2P; rw [h, Option.bind_some, h2]; rfl
end
theorem changeP_rows {r r' : Rc} {l l' : List UInt8} (h : changeP r l = some (r', l')) : r'.txns = r.txns ∧ r'.pages = r.pages := by
 unfold changeP at h
 obtain ⟨pg, _, h⟩ := Option.bind_eq_some_iff.1 h
 obtain ⟨o, _, h⟩ := Option.bind_eq_some_iff.1 h
 obtain ⟨n, _, h⟩ := Option.bind_eq_some_iff.1 h
 split at h
 · obtain ⟨b, _, h⟩ := Option.bind_eq_some_iff.1 h
   obtain ⟨a, _, h⟩ := Option.map_eq_some_iff.1 h
   simp only [Prod.mk.injEq] at h
   obtain ⟨rfl, _⟩ := h
   exact ⟨rfl, rfl⟩
 · obtain ⟨a, _, h⟩ := Option.map_eq_some_iff.1 h
   simp only [Prod.mk.injEq] at h
   obtain ⟨rfl, _⟩ := h
   exact ⟨rfl, rfl⟩
def Midst {α : Type} (p : List UInt8 → Option (α × List UInt8)) (m : Nat) (l0 : List UInt8) (xs : List α) (l : List UInt8) : Prop :=
 xs.length ≤ m ∧ manyP p m l0 = (manyP p (m - xs.length) l).map fun y => (xs ++ y.1, y.2)
namespace Midst
variable {α : Type} {p : List UInt8 → Option (α × List UInt8)} {m : Nat} {l0 l l' : List UInt8} {xs : List α} {x : α}
theorem start (p : List UInt8 → Option (α × List UInt8)) (m : Nat) (l0 : List UInt8) : Midst p m l0 [] l0 := ⟨Nat.zero_le _, by show _ = Option.map _ (manyP p (m - 0) l0); rw [Nat.sub_zero]; cases manyP p m l0 <;> rfl⟩
theorem some (h : Midst p m l0 xs l) (hlt : xs.length < m) (hx : p l = .some (x, l')) : Midst p m l0 (xs ++ [x]) l' := by
 refine ⟨by simp; omega, ?_⟩
 rw [h.2, show m - xs.length = (m - (xs ++ [x]).length) + 1 from by simp; omega]
 simp only [manyP, hx, Option.bind_some, Option.map_map]
 congr 1
 funext y
 simp
theorem none (h : Midst p m l0 xs l) (hlt : xs.length < m) (hx : p l = .none) : manyP p m l0 = .none := by
 rw [h.2, show m - xs.length = (m - xs.length - 1) + 1 from by omega]
 simp only [manyP, hx, Option.bind_none, Option.map_none]
theorem done (h : Midst p m l0 xs l) (he : xs.length = m) : manyP p m l0 = .some (xs, l) := by
 rw [h.2, he, Nat.sub_self]
 simp [manyP]
end Midst
structure Fit (r : Rc) : Prop where
 before : r.before.size ≤ 300
 after : r.after.size ≤ 300
 txns : r.txns.length ≤ 50
 pages : r.pages.length ≤ 50
end Go.Proofs.YtbplgbkbggmaeaaGreat

namespace Go.Proofs.YtbplgbkbggmaeaaGreat
open Go.RowKit
structure Only (S : Nat → Prop) (w w' : World) : Prop where
 os : w'.os = w.os
 tape : w'.tape = w.tape
 output : w'.output = w.output
 size : w.heap.size ≤ w'.heap.size
 block : ∀ b, b < w.heap.size → ¬ S b → w'.heap[b]? = w.heap[b]?
namespace Only
variable {S T : Nat → Prop} {w w' w'' : World}
theorem refl (S : Nat → Prop) (w : World) : Only S w w := ⟨rfl, rfl, rfl, Nat.le_refl _, fun _ _ _ => rfl⟩
theorem and_ (h : Only S w w') (k : Only T w' w'') (hT : ∀ b, T b → S b ∨ w.heap.size ≤ b) : Only S w w'' :=
 ⟨k.os.trans h.os, k.tape.trans h.tape, k.output.trans h.output, Nat.le_trans h.size k.size, fun b hb hs => (k.block b (Nat.lt_of_lt_of_le hb h.size) fun g => (hT b g).elim hs (by omega)).trans (h.block b hb hs)⟩
theorem trans (h : Only S w w') (k : Only S w' w'') : Only S w w'' := h.and_ k fun _ => .inl
theorem ofBelow (h : Below w.heap.size w w') : Only S w w' := ⟨h.os, h.tape, h.output, h.size, fun b hb _ => h.block b hb⟩
theorem more (h : Only S w w') (k : Below w'.heap.size w' w'') : Only S w w'' := h.trans (.ofBelow k)
theorem alloc (h : Only S w w') (o : Obj) : Only S w (w'.alloc o) := h.more ((Below.refl _ _).alloc (Nat.le_refl _) _)
theorem drew (h : Only S w w') : Only S w w'.drew := ⟨h.os, h.tape, h.output, h.size, h.block⟩
theorem drewN (h : Only S w w') (n : Nat) : Only S w (w'.drewN n) := ⟨h.os, h.tape, h.output, h.size, h.block⟩
theorem set (h : Only S w w') {p : Addr} (hp : S p.block ∨ w.heap.size ≤ p.block) (v : Value) : Only S w (w'.setCell p v) :=
 h.and_ (T := fun b => b = p.block) ⟨rfl, rfl, rfl, by simp [World.setCell], fun b _ hf => Below.heap_setCell w' p v b hf⟩ fun b hb => by subst hb; exact hp
theorem grown (h : Only S w w') {row : Option Nat} (hg : w'.grownBy w'' row) (hr : ∀ b, row = some b → S b ∨ w.heap.size ≤ b) : Only S w w'' :=
 h.and_ (T := fun b => row = some b) ⟨hg.os, hg.tape, hg.output, hg.size, fun b hb hf => hg.block b hb fun e => hf e.symm⟩ fun b hb => hr b hb
theorem setRow (h : Only S w w') {g : Nat} (hp : S g ∨ w.heap.size ≤ g) (cs : Array Value) : Only S w (w'.setRow g cs) :=
 h.and_ (T := fun b => b = g) ⟨rfl, rfl, rfl, by simp [World.setRow], fun b _ hf => setRow_other w' g b cs hf⟩ fun b hb => by subst hb; exact hp
theorem below (h : Only S w w') {B : Nat} {a : World} (k : Below B a w) (hB : B ≤ w.heap.size) (hS : ∀ b, S b → B ≤ b) : Below B a w' :=
 ⟨h.os.trans k.os, h.tape.trans k.tape, h.output.trans k.output, Nat.le_trans k.size h.size, fun b hb => (h.block b (by omega) fun g => by have := hS b g; omega).trans (k.block b hb)⟩
theorem widen (h : Only S w w') (hT : ∀ b, S b → T b ∨ w.heap.size ≤ b) : Only T w w' := (refl T w).and_ h hT
theorem blk {g t : Nat} {cs : Array Value} (h : Only S w w') (hb : Blk w g t cs) (hg : ¬ S g) : Blk w' g t cs := (h.block g hb.lt hg).trans hb
end Only
end Go.Proofs.YtbplgbkbggmaeaaGreat

namespace Go.Proofs.YtbplgbkbggmaeaaGreat
open Go.RowKit
def Elems (w : World) (v : Value) (n : Nat) (xs : List Value) : Prop :=
 ∃ (a : Option Addr) (cap : Nat), v = .slice a n cap ∧ n ≤ cap ∧ cap ≤ maxLen ∧ ∀ j x, xs[j]? = some x → ∃ b off, a = some ⟨b, off, none⟩ ∧ w.cell? ⟨b, off + j, none⟩ = some x
namespace Elems
variable {w w' : World} {v : Value} {n : Nat} {xs : List Value}
theorem nil (w : World) : Elems w (.slice none 0 0) 0 [] := ⟨none, 0, rfl, Nat.le_refl _, Nat.zero_le _, fun j x h => by simp at h⟩
theorem form (h : Elems w v n xs) : ∃ a cap, v = .slice a n cap := let ⟨a, cap, h, _⟩ := h; ⟨a, cap, h⟩
theorem le (h : Elems w v n xs) : n ≤ maxLen := let ⟨_, _, _, h1, h2, _⟩ := h; Nat.le_trans h1 h2
theorem keepS (h : Elems w v n xs) {S : Nat → Prop} (hb : Only S w w') (hS : xs ≠ [] → ∀ b, v.ownBlock = some b → ¬ S b) : Elems w' v n xs := by
 obtain ⟨a, cap, rfl, h1, h2, hx⟩ := h
 refine ⟨a, cap, rfl, h1, h2, fun j x hj => ?_⟩
 obtain ⟨b, off, rfl, h⟩ := hx j x hj
 refine ⟨b, off, rfl, ?_⟩
 have e := hb.block b (World.block_lt_of_cell? w ⟨b, off + j, none⟩ h) (hS (by rintro rfl; simp at hj) b rfl)
 rw [← h]
 unfold World.cell?
 simp only [e]
theorem keep (h : Elems w v n xs) (hb : Below w.heap.size w w') : Elems w' v n xs := h.keepS (S := fun _ => False) (.ofBelow hb) fun _ _ _ => id
theorem cases {n : Nat} (h : Elems w v n xs) (hx : xs ≠ []) : ∃ b off cap, v = .slice (some ⟨b, off, none⟩) n cap ∧ n ≤ cap ∧ cap ≤ maxLen ∧ b < w.heap.size ∧ ∀ j x, xs[j]? = some x → w.cell? ⟨b, off + j, none⟩ = some x := by
 obtain ⟨a, cap, rfl, hc, hm, h⟩ := h
 cases xs with
 | nil => exact absurd rfl hx
 | cons y ys =>
   obtain ⟨b, off, rfl, h0⟩ := h 0 y rfl
   refine ⟨b, off, cap, rfl, hc, hm, World.block_lt_of_cell? w ⟨b, off + 0, none⟩ h0, fun j x hj => ?_⟩
   obtain ⟨b', off', e, h⟩ := h j x hj
   simp only [Option.some.injEq, Addr.mk.injEq, and_true] at e
   obtain ⟨rfl, rfl⟩ := e
   exact h
theorem ofOwn {base e size : Nat} (h : w.ownsRow base e size v n xs) : Elems w v n xs := by
 rcases own_any h with ⟨rfl, rfl, rfl⟩ | ⟨g, cap, rfl, h1, h2⟩
 · exact nil w
 · refine ⟨_, cap, rfl, h1, h2, fun j x hj => ⟨g, 0, rfl, ?_⟩⟩
   have := h.cells (g := g) rfl j x hj
   rwa [show ((⟨g, 0, none⟩ : Addr).add j) = ⟨g, 0 + j, none⟩ from by unfold Addr.add; split <;> simp_all] at this
end Elems
def cells3 (x : Row3) : List Value := [.int .i64 x.1, .int .i64 x.2.1, .int .i64 x.2.2]
def cells2 (x : Row2) : List Value := [.int .i64 x.1, .int .i64 x.2]
def rows3 (l : List Row3) : List Value := l.flatMap cells3
def rows2 (l : List Row2) : List Value := l.flatMap cells2
theorem rows3_len (l : List Row3) : (rows3 l).length = l.length * 3 := by
 induction l with
 | nil => rfl
 | cons x l ih => show (cells3 x ++ rows3 l).length = _; simp [cells3, ih]; omega
theorem rows2_len (l : List Row2) : (rows2 l).length = l.length * 2 := by
 induction l with
 | nil => rfl
 | cons x l ih => show (cells2 x ++ rows2 l).length = _; simp [cells2, ih]; omega
theorem rows3_snoc (l : List Row3) (x : Row3) : rows3 (l ++ [x]) = rows3 l ++ cells3 x := by simp [rows3]
theorem rows2_snoc (l : List Row2) (x : Row2) : rows2 (l ++ [x]) = rows2 l ++ cells2 x := by simp [rows2]
theorem rows3_at (l : List Row3) (j : Nat) (h : j < l.length) : (rows3 l)[j * 3]? = some (.int .i64 l[j].1) ∧ (rows3 l)[j * 3 + 1]? = some (.int .i64 l[j].2.1) ∧ (rows3 l)[j * 3 + 2]? = some (.int .i64 l[j].2.2) := by
 induction l generalizing j with
 | nil => simp at h
 | cons x l ih =>
   have e : rows3 (x :: l) = .int .i64 x.1 :: .int .i64 x.2.1 :: .int .i64 x.2.2 :: rows3 l := rfl
   cases j with
   | zero => simp [e]
   | succ j =>
     have := ih j (by simpa using h)
     rw [e, show (j + 1) * 3 = j * 3 + 1 + 1 + 1 by omega]
     exact this
theorem rows2_at (l : List Row2) (j : Nat) (h : j < l.length) : (rows2 l)[j * 2]? = some (.int .i64 l[j].1) ∧ (rows2 l)[j * 2 + 1]? = some (.int .i64 l[j].2) := by
 induction l generalizing j with
 | nil => simp at h
 | cons x l ih =>
   have e : rows2 (x :: l) = .int .i64 x.1 :: .int .i64 x.2 :: rows2 l := rfl
   cases j with
   | zero => simp [e]
   | succ j =>
     have := ih j (by simpa using h)
     rw [e, show (j + 1) * 2 = j * 2 + 1 + 1 by omega]
     exact this
theorem Elems.at3 {w : World} {v : Value} {l : List Row3} (h : Elems w v l.length (rows3 l)) (hl : l ≠ []) : ∃ b off cap, v = .slice (some ⟨b, off, none⟩) l.length cap ∧ l.length ≤ cap ∧ cap ≤ maxLen ∧ b < w.heap.size ∧
   ∀ j (hj : j < l.length), w.cell? ⟨b, off + j * 3, none⟩ = some (.int .i64 l[j].1) ∧ w.cell? ⟨b, off + j * 3 + 1, none⟩ = some (.int .i64 l[j].2.1) ∧ w.cell? ⟨b, off + j * 3 + 2, none⟩ = some (.int .i64 l[j].2.2) := by
 obtain ⟨b, off, cap, e, h1, h2, h3, h4⟩ := h.cases (by cases l with | nil => exact absurd rfl hl | cons x l => exact fun e => by cases e)
 refine ⟨b, off, cap, e, h1, h2, h3, fun j hj => ?_⟩
 obtain ⟨e0, e1, e2⟩ := rows3_at l j hj
 exact ⟨h4 _ _ e0, h4 _ _ e1, h4 _ _ e2⟩
theorem Elems.at2 {w : World} {v : Value} {l : List Row2} (h : Elems w v l.length (rows2 l)) (hl : l ≠ []) : ∃ b off cap, v = .slice (some ⟨b, off, none⟩) l.length cap ∧ l.length ≤ cap ∧ cap ≤ maxLen ∧ b < w.heap.size ∧
   ∀ j (hj : j < l.length), w.cell? ⟨b, off + j * 2, none⟩ = some (.int .i64 l[j].1) ∧ w.cell? ⟨b, off + j * 2 + 1, none⟩ = some (.int .i64 l[j].2) := by
 obtain ⟨b, off, cap, e, h1, h2, h3, h4⟩ := h.cases (by cases l with | nil => exact absurd rfl hl | cons x l => exact fun e => by cases e)
 refine ⟨b, off, cap, e, h1, h2, h3, fun j hj => ?_⟩
 obtain ⟨e0, e1⟩ := rows2_at l j hj
 exact ⟨h4 _ _ e0, h4 _ _ e1⟩
def recCells (r : Rc) (vt vp : Value) : Array Value :=
 #[.int .i64 r.kind, .int .i64 r.txn, .int .i64 r.page, .int .i64 r.off, .int .i64 r.prev, .int .i64 r.next, .int .i64 r.beg, .string r.before, .string r.after, vt, vp]
def recV (r : Rc) (vt vp : Value) : Value := .agg (recCells r vt vp)
structure Lists (w : World) (r : Rc) (vt vp : Value) : Prop where
 t : Elems w vt r.txns.length (rows3 r.txns)
 p : Elems w vp r.pages.length (rows2 r.pages)
theorem own_only {S : Nat → Prop} {w w' : World} {base size n : Nat} {e : TypeId} {v : Value} {xs : List Value} (h : w.ownsRow base e size v n xs) (hb : Only S w w') (hS : ∀ b, v.ownBlock = some b → ¬ S b) : w'.ownsRow base e size v n xs :=
 own_keep h fun b hv => hb.block b (h.lt b hv).2 (hS b hv)
theorem Lists.keep {w w' : World} {r : Rc} {vt vp : Value} (h : Lists w r vt vp) (hb : Below w.heap.size w w') : Lists w' r vt vp := ⟨h.t.keep hb, h.p.keep hb⟩
theorem Lists.keepS {S : Nat → Prop} {w w' : World} {r : Rc} {vt vp : Value} (h : Lists w r vt vp) (hb : Only S w w') (ht : ∀ b, vt.ownBlock = some b → ¬ S b) (hp : ∀ b, vp.ownBlock = some b → ¬ S b) : Lists w' r vt vp :=
 ⟨h.t.keepS hb fun _ => ht, h.p.keepS hb fun _ => hp⟩
theorem Lists.nil (w : World) (r : Rc) (ht : r.txns = []) (hp : r.pages = []) : Lists w r (.slice none 0 0) (.slice none 0 0) := ⟨by rw [ht]; exact Elems.nil w, by rw [hp]; exact Elems.nil w⟩
theorem Lists.one {w : World} {r : Rc} {vt vp : Value} (h : Lists w r vt vp) : (recCells r vt vp).all (·.oneCell') = true := by
 obtain ⟨a, c, e⟩ := h.t.form
 obtain ⟨a', c', e'⟩ := h.p.form
 subst e e'
 simp [recCells, Value.oneCell']
def New (w : World) (v : Value) : Prop := ∀ b, v.ownBlock = some b → w.heap.size ≤ b
theorem New.nil (w : World) : New w (.slice none 0 0) := fun b h => by cases h
theorem New.mono {w w' : World} {v : Value} (h : New w' v) (hs : w.heap.size ≤ w'.heap.size) : New w v := fun b hb => Nat.le_trans hs (h b hb)
theorem New.own {w w' : World} {base size n : Nat} {e : TypeId} {v : Value} {xs : List Value} (h : w'.ownsRow base e size v n xs) (hb : w.heap.size ≤ base) : New w v := fun b hv => Nat.le_trans hb (h.lt b hv).1
def IsRec (w : World) (v : Value) (r : Rc) : Prop := ∃ vt vp, v = recV r vt vp ∧ Lists w r vt vp
theorem IsRec.keep {w w' : World} {v : Value} {r : Rc} (h : IsRec w v r) (hb : Below w.heap.size w w') : IsRec w' v r := let ⟨vt, vp, e, l⟩ := h; ⟨vt, vp, e, l.keep hb⟩
end Go.Proofs.YtbplgbkbggmaeaaGreat

namespace Go.Proofs.YtbplgbkbggmaeaaGreat
open Go.RowKit
def bytesL (l : List UInt8) : List Value := l.map fun b => Value.int .u8 (b.toNat : Int)
theorem bytesL_app (a b : List UInt8) : bytesL (a ++ b) = bytesL a ++ bytesL b := by simp [bytesL]
theorem bytesL_len (a : List UInt8) : (bytesL a).length = a.length := by simp [bytesL]
structure Buf (w0 w : World) (v : Value) (l : List UInt8) : Prop where
 own : w.ownsRow w0.heap.size 5 1 v l.length (bytesL l)
 below : Below w0.heap.size w0 w
namespace Buf
variable {w0 w w' : World} {v v' : Value} {l c : List UInt8}
theorem le (h : Buf w0 w v l) : w0.heap.size ≤ w.heap.size := h.below.size
theorem more (h : Buf w0 w v l) (hb : Below w.heap.size w w') : Buf w0 w' v l := ⟨own_below h.own hb, h.below.trans (hb.mono h.le)⟩
theorem grow {m : Nat} {cells : List Value} (h : Buf w0 w v l) (ho : w'.ownsRow w0.heap.size 5 1 v' (l.length + m) (bytesL l ++ cells)) (hg : w.grownBy w' v.ownBlock) (hc : cells = bytesL c) : Buf w0 w' v' (l ++ c) := by
 have hm : (bytesL l ++ cells).length = (l.length + m) * 1 := ho.1
 subst hc
 rw [List.length_append, bytesL_len, bytesL_len] at hm
 refine ⟨?_, ⟨hg.os.trans h.below.os, hg.tape.trans h.below.tape, hg.output.trans h.below.output, Nat.le_trans h.below.size hg.size, fun b hb => ?_⟩⟩
 · rw [List.length_append, bytesL_app, show l.length + c.length = l.length + m from by omega]
   exact ho
 · exact (hg.block b (Nat.lt_of_lt_of_le hb h.le) fun e => by have := (h.own.lt b e.symm).1; omega).trans (h.below.block b hb)
theorem blk {g t : Nat} {cs : Array Value} (h : Buf w0 w v l) (ho : Only (fun b => v.ownBlock = some b) w w') (hb : Blk w g t cs) (ht : 5 ≠ t) : Blk w' g t cs := ho.blk hb (own_blk h.own hb ht)
end Buf
theorem only_grown {w w1 w' : World} {v : Value} (hb : Below w.heap.size w w1) (hg : w1.grownBy w' v.ownBlock) : Only (fun b => v.ownBlock = some b) w w' :=
 (Only.ofBelow hb).grown hg fun _ h => .inl h
theorem info_byte : (Tryz.prog.info? 5).map (fun i => (i.zero, i.size, i.bytes)) = some (some (.int .u8 0), 1, 1) := by kernel_rfl
theorem beI_cells (n : Int) : [Value.int .u8 (n / 16777216 % 256), .int .u8 (n / 65536 % 256), .int .u8 (n / 256 % 256), .int .u8 (n % 256)] = bytesL (beI n) := by
 simp only [bytesL, beI, be4, List.map_cons, List.map_nil, List.cons.injEq, Value.int.injEq, true_and, and_true]
 refine ⟨?_, ?_, ?_, ?_⟩ <;> simp <;> omega
set_option maxRecDepth 100000 in
set_option maxHeartbeats 2000000 in
theorem appendNumber_any {w0 w : World} {v : Value} {l : List UInt8} (h : Buf w0 w v l) (hl : l.length ≤ 100000) (n : Int) :
   Calls Tryz.prog 105 #[v, .int .i64 n] w fun e w' => ∃ v', e = .returned v' ∧ Buf w0 w' v' (l ++ beI n) ∧ Only (fun b => v.ownBlock = some b) w w' := by
 obtain ⟨i0, hi, he⟩ := Option.map_eq_some_iff.1 info_byte
 simp only [Prod.mk.injEq] at he
 obtain ⟨hz0, hz1, hz2⟩ := he
 have H := Lib.hid h
 have hown := own_below h.own ((Below.refl w.heap.size w).alloc (Nat.le_refl _) (.cells #[.int .u8 (n / 16777216 % 256), .int .u8 (n / 65536 % 256), .int .u8 (n / 256 % 256), .int .u8 (n % 256)] 5))
 have hB := h.le
 clear h
 go_enter Tryz.func105, Tryz.ntmps105
 go_wp2_with (at_builtin; refine wpList_append_own _ rfl (.tmp 5) (.tmp 17) 136 rfl w0.heap.size 5 i0 (.int .u8 0) 1 1 Tryz.underlying136 hi hz0 hz1 hz2 rfl (by decide) v _ _ rfl hown ⟨w.heap.size, 0, none⟩ 4 4 [.int .u8 (n / 16777216 % 256), .int .u8 (n / 65536 % 256), .int .u8 (n / 256 % 256), .int .u8 (n % 256)] rfl rfl (World.news_of_block (heap_alloc_new w _)) (by simp [Value.oneCell']) (by unfold maxLen; omega) (by omega) (by simp; omega) ?_)
 intro v' w3 hown3 hgrow _
 have HB := Lib.hid (And.intro ((H.out.more ((Below.refl _ _).alloc (Nat.le_refl _) _)).grow hown3 hgrow (beI_cells n)) (only_grown ((Below.refl _ _).alloc (Nat.le_refl _) _) hgrow))
 clear hown hown3 hgrow
 go_wp2
 go_ret
 exact ⟨_, rfl, HB.out⟩
theorem beLow_cells (n : Int) : [Value.int .u8 (n % 256)] = bytesL [lowI n] := by
 simp [bytesL, lowI]
 omega
theorem byte_cells (n : Int) (h : 0 ≤ n ∧ n ≤ 255) : [Value.int .u8 n] = bytesL [lowI n] := by
 rw [← beLow_cells, show n % 256 = n from by omega]
theorem flat3_snoc (xs : List Row3) (x : Row3) : (xs ++ [x]).flatMap enc3 = xs.flatMap enc3 ++ enc3 x := by simp
theorem flat2_snoc (xs : List Row2) (x : Row2) : (xs ++ [x]).flatMap enc2 = xs.flatMap enc2 ++ enc2 x := by simp
theorem flat3_len (xs : List Row3) : (xs.flatMap enc3).length = xs.length * 12 := by
 induction xs with
 | nil => rfl
 | cons x xs ih => simp [ih, enc3, beI_len]; omega
theorem flat2_len (xs : List Row2) : (xs.flatMap enc2).length = xs.length * 5 := by
 induction xs with
 | nil => rfl
 | cons x xs ih => simp [ih, enc2, beI_len]; omega
theorem take3_snoc (l : List Row3) (k : Nat) (h : k < l.length) : (l.take (k + 1)).flatMap enc3 = (l.take k).flatMap enc3 ++ (beI l[k].1 ++ beI l[k].2.1 ++ beI l[k].2.2) := by
 rw [List.take_succ_eq_append_getElem h, flat3_snoc]; rfl
theorem take2_snoc (l : List Row2) (k : Nat) (h : k < l.length) : (l.take (k + 1)).flatMap enc2 = (l.take k).flatMap enc2 ++ ([lowI l[k].1] ++ beI l[k].2) := by
 rw [List.take_succ_eq_append_getElem h, flat2_snoc]; rfl
def lay' (l : List UInt8) (r : Rc) : List UInt8 := l ++ beI r.beg ++ [lowI r.txns.length] ++ r.txns.flatMap enc3 ++ [lowI r.pages.length]
set_option maxRecDepth 100000 in
set_option maxHeartbeats 8000000 in
theorem appendTables_any {w0 w : World} {v vt vp : Value} {l : List UInt8} {r : Rc} (h : Buf w0 w v l) (hl : l.length ≤ 1000) (hr : Lists w0 r vt vp) (h3 : r.txns.length ≤ 50) (h2 : r.pages.length ≤ 50) :
   Calls Tryz.prog 106 #[v, recV r vt vp] w fun e w' => ∃ v', e = .returned v' ∧ Buf w0 w' v' (l ++ encTab r) := by
 obtain ⟨i0, hi, he⟩ := Option.map_eq_some_iff.1 info_byte
 simp only [Prod.mk.injEq] at he
 obtain ⟨hz0, hz1, hz2⟩ := he
 have II := Lib.hid (show _ ∧ _ ∧ _ ∧ _ from ⟨hi, hz0, hz1, hz2⟩)
 clear hi hz0 hz1 hz2
 have H := Lib.hid h
 have HR := Lib.hid hr
 obtain ⟨ta, tc, hvt⟩ := hr.t.form
 obtain ⟨pa, pc, hvp⟩ := hr.p.form
 subst hvt hvp
 have B0 := Lib.hid (Blk.new w 49 (recCells r (.slice ta r.txns.length tc) (.slice pa r.pages.length pc)))
 have hb0 : Below w.heap.size w (w.alloc (.cells (recCells r (.slice ta r.txns.length tc) (.slice pa r.pages.length pc)) 49)) := (Below.refl _ _).alloc (Nat.le_refl _) _
 have H1 := Lib.hid (h.more hb0)
 clear h hr
 clear hb0
 unfold recV recCells
 go_enter Tryz.func106, Tryz.ntmps106
 go_wp2_with fail
 refine (appendNumber_any H1.out (by omega) r.beg).mono ?_
 rintro e w1 ⟨v1, rfl, hb1, ho1⟩
 have bx := H1.out.blk ho1 B0.out (by decide)
 have BX := Lib.hid bx
 have c9 := bx.cell 9
 have c10 := bx.cell 10
 simp [recCells] at c9 c10
 have H2 := Lib.hid hb1
 have hl2 : (l ++ beI r.beg).length ≤ 1004 := by rw [List.length_append, beI_len]; omega
 clear bx hb1 ho1 H1 B0
 generalize hl1 : l ++ beI r.beg = l1 at *
 obtain ⟨hi, hz0, hz1, hz2⟩ := id II.out
 have hown := own_below H2.out.own ((Below.refl w1.heap.size w1).alloc (Nat.le_refl _) (.cells #[.int .u8 (r.txns.length : Int)] 5))
 have hle := H2.out.le
 go_wp2_with (at_builtin; refine wpList_append_own _ rfl (.tmp 13) (.tmp 18) 136 rfl w0.heap.size 5 i0 (.int .u8 0) 1 1 Tryz.underlying136 hi hz0 hz1 hz2 rfl (by decide) v1 _ _ rfl hown ⟨w1.heap.size, 0, none⟩ 1 1 [.int .u8 (r.txns.length : Int)] rfl rfl (World.news_of_block (heap_alloc_new w1 _)) (by simp [Value.oneCell']) (by unfold maxLen; omega) (by omega) (by simp; omega) ?_)
 intro v2 w2 hown2 hgrow _
 have hb1 : Below w1.heap.size w1 (w1.alloc (.cells #[.int .u8 (r.txns.length : Int)] 5)) := (Below.refl _ _).alloc (Nat.le_refl _) _
 have ho2 := only_grown hb1 hgrow
 have bx := H2.out.blk ho2 BX.out (by decide)
 have H3 := Lib.hid ((H2.out.more hb1).grow hown2 hgrow (byte_cells _ (by omega)))
 have BX2 := Lib.hid bx
 have c9 := bx.cell 9
 have c10 := bx.cell 10
 simp [recCells] at c9 c10
 have hl3 : (l1 ++ [lowI r.txns.length]).length ≤ 1005 := by rw [List.length_append]; simp; omega
 have E1 := Lib.hid hl1
 clear hown hown2 hgrow hb1 ho2 H2 BX hl2 hl1 bx
 generalize hl2 : l1 ++ [lowI r.txns.length] = l2 at *
 have E2 := Lib.hid hl2
 clear hl2
 go_wp2_with fail
 go_loopw [0, 23] (fun vb vk wr => ∃ (k : Nat) (l' : List UInt8), k ≤ r.txns.length ∧ vk = .int .i64 k ∧ l' = l2 ++ (r.txns.take k).flatMap enc3 ∧ Buf w0 wr vb l' ∧ Blk wr w.heap.size 49 (recCells r (.slice ta r.txns.length tc) (.slice pa r.pages.length pc))) (fun _ vk _ => r.txns.length - (intOf vk).toNat)
 case atStart => exact ⟨0, l2, Nat.zero_le _, rfl, by simp, H3.out, BX2.out⟩
 case round =>
   obtain ⟨k, l', hk, rfl, hl', hb, hx⟩ := hrel
   have HB := Lib.hid hb
   have HX := Lib.hid hx
   have hlen : l'.length ≤ 1605 := by rw [hl', List.length_append, flat3_len, List.length_take]; omega
   have EL := Lib.hid hl'
   clear hb hx hl' H3 BX2 c9 c10
   by_cases hlt : k < r.txns.length
   · have hne : r.txns ≠ [] := fun e => by rw [e] at hlt; simp at hlt
     obtain ⟨b, off, cap, hv, hc1, hc2, hbl, hcells⟩ := HR.out.t.at3 hne
     simp only [Value.slice.injEq] at hv
     obtain ⟨rfl, _, rfl⟩ := hv
     obtain ⟨d0, d1, d2⟩ := hcells k hlt
     have hk' := fun x => HB.out.below.cell (p := ⟨b, x, none⟩) hbl
     replace d0 := (hk' _).trans d0
     replace d1 := (hk' _).trans d1
     replace d2 := (hk' _).trans d2
     have ES := Lib.hid (take3_snoc r.txns k hlt)
     have hnl : (r.txns.length : Int) ≤ 50 := by omega
     generalize r.txns[k].1 = x1 at *
     generalize r.txns[k].2.1 = x2 at *
     generalize r.txns[k].2.2 = x3 at *
     clear hcells hk' hne
     have hba : Below wr.heap.size wr (wr.alloc (.cells #[.int .i64 x1, .int .i64 x2, .int .i64 x3] 152)) := (Below.refl _ _).alloc (Nat.le_refl _) _
     have Q0 := Lib.hid (Blk.new wr 152 #[.int .i64 x1, .int .i64 x2, .int .i64 x3])
     have HB1 := Lib.hid (HB.out.more hba)
     have HX1 := Lib.hid (HX.out.keep hba HX.out.lt)
     clear hba HB HX
     go_wp2_with fail
     generalize wr.alloc (.cells #[.int .i64 x1, .int .i64 x2, .int .i64 x3] 152) = w3 at *
     generalize wr.heap.size = y at *
     clear d0 d1 d2
     refine (appendNumber_any HB1.out (by omega) x1).mono ?_
     rintro e w4 ⟨v4, rfl, hb4, ho4⟩
     have HB2 := Lib.hid hb4
     have HX2 := Lib.hid (HB1.out.blk ho4 HX1.out (by decide))
     have q := HB1.out.blk ho4 Q0.out (by decide)
     have d1 := q.cell 1
     simp at d1
     have Q1 := Lib.hid q
     have hlen4 : (l' ++ beI x1).length ≤ 1609 := by rw [List.length_append, beI_len]; omega
     clear hb4 ho4 q HB1 HX1 Q0
     go_wp2_with fail
     refine (appendNumber_any HB2.out (by omega) x2).mono ?_
     rintro e w5 ⟨v5, rfl, hb5, ho5⟩
     have HB3 := Lib.hid hb5
     have HX3 := Lib.hid (HB2.out.blk ho5 HX2.out (by decide))
     have q := HB2.out.blk ho5 Q1.out (by decide)
     have d2 := q.cell 2
     simp at d2
     have hlen5 : (l' ++ beI x1 ++ beI x2).length ≤ 1613 := by rw [List.length_append, beI_len]; omega
     clear hb5 ho5 q HB2 HX2 Q1 d1
     go_wp2_with fail
     refine (appendNumber_any HB3.out (by omega) x3).mono ?_
     rintro e w6 ⟨v6, rfl, hb6, ho6⟩
     have HB4 := Lib.hid hb6
     have HX4 := Lib.hid (HB3.out.blk ho6 HX3.out (by decide))
     clear hb6 ho6 HB3 HX3 d2
     go_wp2_with fail
     go_roundw
     case rel => exact ⟨k + 1, _, by omega, by go_num, by rw [EL.out, ES.out]; simp only [List.append_assoc], HB4.out, HX4.out⟩
     case measure => simp [intOf]; omega
   · obtain rfl : k = r.txns.length := by omega
     rw [List.take_length] at EL
     have c10 := HX.out.cell 10
     simp [recCells] at c10
     have hown := own_below HB.out.own ((Below.refl wr.heap.size wr).alloc (Nat.le_refl _) (.cells #[.int .u8 (r.pages.length : Int)] 5))
     have hle := HB.out.le
     generalize u0 = ub at *
     go_wp2_with (at_builtin; refine wpList_append_own _ rfl (.tmp 40) (.tmp 45) 136 rfl w0.heap.size 5 i0 (.int .u8 0) 1 1 Tryz.underlying136 hi hz0 hz1 hz2 rfl (by decide) ub _ _ rfl hown ⟨wr.heap.size, 0, none⟩ 1 1 [.int .u8 (r.pages.length : Int)] rfl rfl (World.news_of_block (heap_alloc_new wr _)) (by simp [Value.oneCell']) (by unfold maxLen; omega) (by omega) (by simp; omega) ?_)
     intro v3 w3 hown3 hgrow _
     have hb1 : Below wr.heap.size wr (wr.alloc (.cells #[.int .u8 (r.pages.length : Int)] 5)) := (Below.refl _ _).alloc (Nat.le_refl _) _
     have bx := HB.out.blk (only_grown hb1 hgrow) HX.out (by decide)
     have H4 := Lib.hid ((HB.out.more hb1).grow hown3 hgrow (byte_cells _ (by omega)))
     have BX3 := Lib.hid bx
     have c10 := bx.cell 10
     simp [recCells] at c10
     have hl4 : (l' ++ [lowI r.pages.length]).length ≤ 1606 := by rw [List.length_append]; simp; omega
     clear hown hown3 hgrow hb1 bx HB HX
     generalize hl5 : l' ++ [lowI r.pages.length] = l5 at *
     have E5 := Lib.hid hl5
     clear hl5
     go_wp2_with fail
     have EL2 : Hid (lay' l r = l5) := by
       show lay' l r = l5
       rw [← E5.out, EL.out, ← E2.out, ← E1.out]
       simp [lay']
     clear EL E5 E2 E1 c9 c10
     go_loopw [0, 50] (fun vb vk wr => ∃ (k : Nat) (l' : List UInt8), k ≤ r.pages.length ∧ vk = .int .i64 k ∧ l' = l5 ++ (r.pages.take k).flatMap enc2 ∧ Buf w0 wr vb l') (fun _ vk _ => r.pages.length - (intOf vk).toNat)
     case atStart => exact ⟨0, l5, Nat.zero_le _, rfl, by simp, H4.out⟩
     case round =>
       obtain ⟨k, l6, hk, rfl, hl', hb⟩ := hrel
       have HB := Lib.hid hb
       have hlen6 : l6.length ≤ 1856 := by rw [hl', List.length_append, flat2_len, List.length_take]; omega
       have EL := Lib.hid hl'
       clear hb hl' H4 BX3
       by_cases hlt : k < r.pages.length
       · have hne : r.pages ≠ [] := fun e => by rw [e] at hlt; simp at hlt
         obtain ⟨b, off, cap, hv, hc1, hc2, hbl, hcells⟩ := HR.out.p.at2 hne
         simp only [Value.slice.injEq] at hv
         obtain ⟨rfl, _, rfl⟩ := hv
         obtain ⟨d0, d1⟩ := hcells k hlt
         have hk' := fun x => HB.out.below.cell (p := ⟨b, x, none⟩) hbl
         replace d0 := (hk' _).trans d0
         replace d1 := (hk' _).trans d1
         have ES := Lib.hid (take2_snoc r.pages k hlt)
         have hnl : (r.pages.length : Int) ≤ 50 := by omega
         generalize r.pages[k].1 = x1 at *
         generalize r.pages[k].2 = x2 at *
         clear hcells hk' hne
         have hba : Below wr.heap.size wr (wr.alloc (.cells #[.int .i64 x1, .int .i64 x2] 92)) := (Below.refl _ _).alloc (Nat.le_refl _) _
         have Q0 := Lib.hid (Blk.new wr 92 #[.int .i64 x1, .int .i64 x2])
         have HB1 := Lib.hid (HB.out.more hba)
         clear hba HB
         have hown := own_below HB1.out.own ((Below.refl _ _).alloc (Nat.le_refl _) (.cells #[.int .u8 (x1 % 256)] 5))
         have hle := HB1.out.le
         have hnb : ((wr.alloc (.cells #[.int .i64 x1, .int .i64 x2] 92)).alloc (.cells #[.int .u8 (x1 % 256)] 5)).heap[wr.heap.size + 1]? = some (.cells #[.int .u8 (x1 % 256)] 5 (0, 0)) := by
           have := heap_alloc_new (wr.alloc (.cells #[.int .i64 x1, .int .i64 x2] 92)) (.cells #[.int .u8 (x1 % 256)] 5)
           rwa [World.size_alloc] at this
         have HNB := Lib.hid hnb
         clear hnb
         generalize u0 = ub at *
         go_wp2_with (at_builtin; refine wpList_append_own _ rfl (.tmp 54) (.tmp 58) 136 rfl w0.heap.size 5 i0 (.int .u8 0) 1 1 Tryz.underlying136 hi hz0 hz1 hz2 rfl (by decide) ub _ _ rfl hown ⟨wr.heap.size + 1, 0, none⟩ 1 1 [.int .u8 (x1 % 256)] rfl rfl (World.news_of_block HNB.out) (by simp [Value.oneCell']) (by unfold maxLen; omega) (by omega) (by simp at hle ⊢; omega) ?_)
         intro v7 w7 hown7 hgrow _
         have hb1 := (Below.refl (wr.alloc (.cells #[.int .i64 x1, .int .i64 x2] 92)).heap.size (wr.alloc (.cells #[.int .i64 x1, .int .i64 x2] 92))).alloc (Nat.le_refl _) (.cells #[.int .u8 (x1 % 256)] 5)
         have q := HB1.out.blk (only_grown hb1 hgrow) Q0.out (by decide)
         have HB2 := Lib.hid ((HB1.out.more hb1).grow hown7 hgrow (beLow_cells _))
         have d3 := q.cell 1
         simp at d3
         have hlen7 : (l6 ++ [lowI x1]).length ≤ 1857 := by rw [List.length_append]; simp; omega
         clear hown7 hgrow hb1 q hown HB1 Q0 HNB d0 d1
         go_wp2_with fail
         refine (appendNumber_any HB2.out (by omega) x2).mono ?_
         rintro e w8 ⟨v8, rfl, hb8, ho8⟩
         have HB3 := Lib.hid hb8
         clear hb8 ho8 HB2 d3
         go_wp2_with fail
         go_roundw
         case rel => exact ⟨k + 1, _, by omega, by go_num, by rw [EL.out, ES.out]; simp only [List.append_assoc], HB3.out⟩
         case measure => simp [intOf]; omega
       · obtain rfl : k = r.pages.length := by omega
         rw [List.take_length] at EL
         have EF : Hid (l ++ encTab r = l6) := by
           show l ++ encTab r = l6
           rw [EL.out, ← EL2.out]
           simp [lay', encTab]
         clear EL EL2
         go_wp2
         go_ret
         exact ⟨_, rfl, by rw [EF.out]; exact HB.out⟩
end Go.Proofs.YtbplgbkbggmaeaaGreat

namespace Go.Proofs.YtbplgbkbggmaeaaGreat
open Go.RowKit
theorem lay_long {r : Rc} (h : May r) : (r.kind = 1 ∧ ((lay r).length : Int) = 12 + 2 * r.after.size) ∨ (r.kind = 2 ∧ ((lay r).length : Int) = 16 + r.after.size) ∨ (r.kind = 3 ∧ ((lay r).length : Int) = 9) ∨
   (r.kind = 4 ∧ ((lay r).length : Int) = 9) ∨ (r.kind = 5 ∧ ((lay r).length : Int) = 1) ∨ (r.kind = 6 ∧ ((lay r).length : Int) = 7 + 12 * r.txns.length + 5 * r.pages.length) := by
 cases h with
 | @upd t p pg o b a ht hn hp hs hb =>
   refine .inl ⟨rfl, ?_⟩
   have e : (lay (.upd t p pg o b a)).length = 12 + b.data.toList.length + a.data.toList.length := by
     simp only [lay, Rc.upd, List.length_append]
     simp [beI_len]
     omega
   have s1 : b.data.toList.length = b.size := rfl
   have s2 : a.data.toList.length = a.size := rfl
   rw [e, s1, s2]
   show ((12 + b.size + a.size : Nat) : Int) = 12 + 2 * (a.size : Int)
   omega
 | @und t p n pg o a ht hn hp hx hs =>
   refine .inr (.inl ⟨rfl, ?_⟩)
   have e : (lay (.und t p n pg o a)).length = 16 + a.data.toList.length := by
     simp only [lay, Rc.und, List.length_append]
     simp [beI_len]
     omega
   have s2 : a.data.toList.length = a.size := rfl
   rw [e, s2]
   show ((16 + a.size : Nat) : Int) = 16 + (a.size : Int)
   omega
 | @com k t p hk ht hn hp =>
   have e : (lay (.com k t p)).length = 9 := by
     rcases hk with rfl | rfl <;> simp [lay, Rc.com, beI_len]
   rcases hk with rfl | rfl
   · exact .inr (.inr (.inl ⟨rfl, by rw [e]; rfl⟩))
   · exact .inr (.inr (.inr (.inl ⟨rfl, by rw [e]; rfl⟩)))
 | beg => exact .inr (.inr (.inr (.inr (.inl ⟨rfl, by decide⟩))))
 | @tab b ts ps hb ht hp h3 h2 =>
   refine .inr (.inr (.inr (.inr (.inr ⟨rfl, ?_⟩))))
   have e : (lay (.tab b ts ps)).length = 7 + 12 * ts.length + 5 * ps.length := by
     have e2 : (lay (.tab b ts ps)) = [lowI 6] ++ encTab (.tab b ts ps) := by simp [lay, Rc.tab]
     rw [e2, List.length_append]
     simp only [encTab, List.length_append, beI_len, List.length_cons, List.length_nil, Rc.tab, flat3_len, flat2_len]
     omega
   rw [e]
   show ((7 + 12 * ts.length + 5 * ps.length : Nat) : Int) = 7 + 12 * (ts.length : Int) + 5 * (ps.length : Int)
   omega
end Go.Proofs.YtbplgbkbggmaeaaGreat

namespace Go.Proofs.YtbplgbkbggmaeaaGreat
open Go.RowKit
theorem take_eq_succ {α : Type} {l m : List α} {k : Nat} (h : l.take k = m.take k) (hl : k < l.length) (hm : k < m.length) (he : l[k] = m[k]) : l.take (k + 1) = m.take (k + 1) := by
 rw [List.take_succ_eq_append_getElem hl, List.take_succ_eq_append_getElem hm, h, he]
theorem take_eq_all {α : Type} {l m : List α} (h : l.take l.length = m.take l.length) (hl : l.length = m.length) : l = m := by
 rwa [List.take_length, hl, List.take_length] at h
theorem ne_at {α : Type} {l m : List α} {k : Nat} (hl : k < l.length) (hm : k < m.length) (h : l[k] ≠ m[k]) : l ≠ m := by rintro rfl; exact h rfl
theorem neq3 (W : World) (x0 x1 x2 y0 y1 y2 : Int) : (binOp .neq 152 (.agg #[.int .i64 x0, .int .i64 x1, .int .i64 x2]) (.agg #[.int .i64 y0, .int .i64 y1, .int .i64 y2])).run Tryz.prog W = .ok (.bool (!((x0 == y0) && (x1 == y1) && (x2 == y2)))) W := by
 by_cases h0 : x0 = y0 <;> by_cases h1 : x1 = y1 <;> by_cases h2 : x2 = y2 <;> simp [go_sem, h0, h1, h2]
theorem neq2 (W : World) (x0 x1 y0 y1 : Int) : (binOp .neq 92 (.agg #[.int .i64 x0, .int .i64 x1]) (.agg #[.int .i64 y0, .int .i64 y1])).run Tryz.prog W = .ok (.bool (!((x0 == y0) && (x1 == y1)))) W := by
 by_cases h0 : x0 = y0 <;> by_cases h1 : x1 = y1 <;> simp [go_sem, h0, h1]
set_option maxRecDepth 100000 in
set_option maxHeartbeats 4000000 in
theorem equal3_any {w : World} {va vb : Value} {l m : List Row3} (ha : Elems w va l.length (rows3 l)) (hb : Elems w vb m.length (rows3 m)) (yes : Bool) (hy : yes = decide (l = m)) :
   Calls Tryz.prog 109 #[va, vb] w fun e w' => e = .returned (.bool yes) ∧ Below w.heap.size w w' := by
 have HY := Lib.hid hy
 have HA := Lib.hid ha
 have HB := Lib.hid hb
 have hla := ha.le
 have hlb := hb.le
 unfold maxLen at hla hlb
 obtain ⟨aa, ac, hva⟩ := ha.form
 obtain ⟨ba, bc, hvb⟩ := hb.form
 subst hva hvb
 clear hy ha hb
 by_cases hlen : l.length = m.length
 · have hl1 : ((l.length : Int) != m.length) = false := by simp [hlen]
   have HL := Lib.hid hlen
   have hl2 : l.length ≤ m.length := by omega
   clear hlen
   go_enter Tryz.func109, Tryz.ntmps109
   go_wp2
   go_loopw [13] (fun vk wr => ∃ k : Nat, k ≤ l.length ∧ vk = .int .i64 k ∧ l.take k = m.take k ∧ Below w.heap.size w wr) (fun vk _ => l.length - (intOf vk).toNat)
   case atStart => exact ⟨0, Nat.zero_le _, rfl, by simp, Below.refl _ _⟩
   case round =>
     obtain ⟨k, hk, rfl, htk, hB⟩ := hrel
     have HT := Lib.hid htk
     clear htk
     by_cases hlt : k < l.length
     · have hltm : k < m.length := by omega
       obtain ⟨b1, off1, cap1, hv, _, _, hbl1, hc1⟩ := HA.out.at3 (fun e => by rw [e] at hlt; simp at hlt)
       simp only [Value.slice.injEq] at hv
       obtain ⟨rfl, _, rfl⟩ := hv
       obtain ⟨b2, off2, cap2, hv, _, _, hbl2, hc2⟩ := HB.out.at3 (fun e => by rw [e] at hltm; simp at hltm)
       simp only [Value.slice.injEq] at hv
       obtain ⟨rfl, _, rfl⟩ := hv
       obtain ⟨d0, d1, d2⟩ := hc1 k hlt
       obtain ⟨e0, e1, e2⟩ := hc2 k hltm
       have hk1 := fun x => hB.cell (p := ⟨b1, x, none⟩) hbl1
       have hk2 := fun x => hB.cell (p := ⟨b2, x, none⟩) hbl2
       replace d0 := (hk1 _).trans d0
       replace e0 := (hk2 _).trans e0
       replace d1 := (hk1 _).trans d1
       replace e1 := (hk2 _).trans e1
       replace d2 := (hk1 _).trans d2
       replace e2 := (hk2 _).trans e2
       have HS := Lib.hid (fun he => take_eq_succ HT.out hlt hltm he)
       have HN := Lib.hid (fun he => ne_at hlt hltm he)
       have HE := Lib.hid (show l[k] = m[k] ↔ l[k].1 = m[k].1 ∧ l[k].2.1 = m[k].2.1 ∧ l[k].2.2 = m[k].2.2 from by simp [Prod.ext_iff])
       generalize l[k].1 = x0 at *
       generalize m[k].1 = y0 at *
       generalize l[k].2.1 = x1 at *
       generalize m[k].2.1 = y1 at *
       generalize l[k].2.2 = x2 at *
       generalize m[k].2.2 = y2 at *
       clear hk1 hk2 hc1 hc2
       have hrun : ∀ W, (binOp .neq 152 (.agg #[.int .i64 x0, .int .i64 x1, .int .i64 x2]) (.agg #[.int .i64 y0, .int .i64 y1, .int .i64 y2])).run Tryz.prog W = .ok (.bool (!((x0 == y0) && (x1 == y1) && (x2 == y2)))) W := fun W => neq3 W x0 x1 x2 y0 y1 y2
       by_cases heq : x0 = y0 ∧ x1 = y1 ∧ x2 = y2
       · have hb1 : (!((x0 == y0) && (x1 == y1) && (x2 == y2))) = false := by obtain ⟨h0, h1, h2⟩ := heq; simp [h0, h1, h2]
         have HQ := Lib.hid (HS.out (HE.out.2 heq))
         clear heq HE HS HN
         rw [hb1] at hrun
         go_wp2_with fail
         go_quiet (fail)
         go_wp2
         go_roundw
         case rel => exact ⟨k + 1, by omega, by go_num, HQ.out, belowN hB _⟩
         case measure => simp [intOf]; omega
       · have hb1 : (!((x0 == y0) && (x1 == y1) && (x2 == y2))) = true := by simp; omega
         have hno : yes = false := by rw [HY.out, decide_eq_false (HN.out fun h => heq (HE.out.1 h))]
         subst hno
         clear heq HE HS HN HY
         rw [hb1] at hrun
         go_wp2_with fail
         go_quiet (fail)
         go_wp2
         go_ret
         exact ⟨rfl, belowN hB _⟩
     · obtain rfl : k = l.length := by omega
       have hyes : yes = true := by rw [HY.out, decide_eq_true (take_eq_all HT.out HL.out)]
       subst hyes
       clear HY
       go_wp2
       go_ret
       exact ⟨rfl, hB⟩
 · have hl1 : ((l.length : Int) != m.length) = true := by simp; omega
   have hno : yes = false := by rw [HY.out, decide_eq_false (by rintro rfl; exact hlen rfl)]
   subst hno
   clear HY hlen
   go_enter Tryz.func109, Tryz.ntmps109
   go_wp2
   go_ret
   exact ⟨rfl, Below.refl _ _⟩
set_option maxRecDepth 100000 in
set_option maxHeartbeats 4000000 in
theorem equal2_any {w : World} {va vb : Value} {l m : List Row2} (ha : Elems w va l.length (rows2 l)) (hb : Elems w vb m.length (rows2 m)) (yes : Bool) (hy : yes = decide (l = m)) :
   Calls Tryz.prog 110 #[va, vb] w fun e w' => e = .returned (.bool yes) ∧ Below w.heap.size w w' := by
 have HY := Lib.hid hy
 have HA := Lib.hid ha
 have HB := Lib.hid hb
 have hla := ha.le
 have hlb := hb.le
 unfold maxLen at hla hlb
 obtain ⟨aa, ac, hva⟩ := ha.form
 obtain ⟨ba, bc, hvb⟩ := hb.form
 subst hva hvb
 clear hy ha hb
 by_cases hlen : l.length = m.length
 · have hl1 : ((l.length : Int) != m.length) = false := by simp [hlen]
   have HL := Lib.hid hlen
   have hl2 : l.length ≤ m.length := by omega
   clear hlen
   go_enter Tryz.func110, Tryz.ntmps110
   go_wp2
   go_loopw [13] (fun vk wr => ∃ k : Nat, k ≤ l.length ∧ vk = .int .i64 k ∧ l.take k = m.take k ∧ Below w.heap.size w wr) (fun vk _ => l.length - (intOf vk).toNat)
   case atStart => exact ⟨0, Nat.zero_le _, rfl, by simp, Below.refl _ _⟩
   case round =>
     obtain ⟨k, hk, rfl, htk, hB⟩ := hrel
     have HT := Lib.hid htk
     clear htk
     by_cases hlt : k < l.length
     · have hltm : k < m.length := by omega
       obtain ⟨b1, off1, cap1, hv, _, _, hbl1, hc1⟩ := HA.out.at2 (fun e => by rw [e] at hlt; simp at hlt)
       simp only [Value.slice.injEq] at hv
       obtain ⟨rfl, _, rfl⟩ := hv
       obtain ⟨b2, off2, cap2, hv, _, _, hbl2, hc2⟩ := HB.out.at2 (fun e => by rw [e] at hltm; simp at hltm)
       simp only [Value.slice.injEq] at hv
       obtain ⟨rfl, _, rfl⟩ := hv
       obtain ⟨d0, d1⟩ := hc1 k hlt
       obtain ⟨e0, e1⟩ := hc2 k hltm
       have hk1 := fun x => hB.cell (p := ⟨b1, x, none⟩) hbl1
       have hk2 := fun x => hB.cell (p := ⟨b2, x, none⟩) hbl2
       replace d0 := (hk1 _).trans d0
       replace e0 := (hk2 _).trans e0
       replace d1 := (hk1 _).trans d1
       replace e1 := (hk2 _).trans e1
       have HS := Lib.hid (fun he => take_eq_succ HT.out hlt hltm he)
       have HN := Lib.hid (fun he => ne_at hlt hltm he)
       have HE := Lib.hid (show l[k] = m[k] ↔ l[k].1 = m[k].1 ∧ l[k].2 = m[k].2 from by simp [Prod.ext_iff])
       generalize l[k].1 = x0 at *
       generalize m[k].1 = y0 at *
       generalize l[k].2 = x1 at *
       generalize m[k].2 = y1 at *
       clear hk1 hk2 hc1 hc2
       have hrun : ∀ W, (binOp .neq 92 (.agg #[.int .i64 x0, .int .i64 x1]) (.agg #[.int .i64 y0, .int .i64 y1])).run Tryz.prog W = .ok (.bool (!((x0 == y0) && (x1 == y1)))) W := fun W => neq2 W x0 x1 y0 y1
       by_cases heq : x0 = y0 ∧ x1 = y1
       · have hb1 : (!((x0 == y0) && (x1 == y1))) = false := by obtain ⟨h0, h1⟩ := heq; simp [h0, h1]
         have HQ := Lib.hid (HS.out (HE.out.2 heq))
         clear heq HE HS HN
         rw [hb1] at hrun
         go_wp2_with fail
         go_quiet (fail)
         go_wp2
         go_roundw
         case rel => exact ⟨k + 1, by omega, by go_num, HQ.out, belowN hB _⟩
         case measure => simp [intOf]; omega
       · have hb1 : (!((x0 == y0) && (x1 == y1))) = true := by simp; omega
         have hno : yes = false := by rw [HY.out, decide_eq_false (HN.out fun h => heq (HE.out.1 h))]
         subst hno
         clear heq HE HS HN HY
         rw [hb1] at hrun
         go_wp2_with fail
         go_quiet (fail)
         go_wp2
         go_ret
         exact ⟨rfl, belowN hB _⟩
     · obtain rfl : k = l.length := by omega
       have hyes : yes = true := by rw [HY.out, decide_eq_true (take_eq_all HT.out HL.out)]
       subst hyes
       clear HY
       go_wp2
       go_ret
       exact ⟨rfl, hB⟩
 · have hl1 : ((l.length : Int) != m.length) = true := by simp; omega
   have hno : yes = false := by rw [HY.out, decide_eq_false (by rintro rfl; exact hlen rfl)]
   subst hno
   clear HY hlen
   go_enter Tryz.func110, Tryz.ntmps110
   go_wp2
   go_ret
   exact ⟨rfl, Below.refl _ _⟩
end Go.Proofs.YtbplgbkbggmaeaaGreat
