/- Texts that belong together, joined: RpK, RpL. -/
import Derived.Test.YtbplgbkbggmaeaaGreatKrpi
import Derived.Test.YtbplgbkbggmaeaaGreatKrpe
import Derived.Test.YtbplgbkbggmaeaaGreatKpob
import Derived.Test.YtbplgbkbggmaeaaGreatKpo
namespace Go.Proofs.YtbplgbkbggmaeaaGreat
open Go.RowKit
def frqCells : Option Fr8 → List Value
 | none => [.int .i64 (-1), .int .i64 0, .string ⟨#[]⟩, .bool false, .int .i64 0]
 | some f => [.int .i64 f.no, .int .i64 f.pg.1, .string f.pg.2, .bool f.dirty, .int .i64 f.since]
theorem frqCells_len (x : Option Fr8) : (frqCells x).length = 5 := by cases x <;> rfl
def frqV (l : Frs) : List Value := l.flatMap frqCells
theorem frqV_snoc (l : Frs) (x : Option Fr8) : frqV (l ++ [x]) = frqV l ++ frqCells x := by simp [frqV]
theorem frqV_at (l : Frs) (k : Nat) (x : Option Fr8) (h : l[k]? = some x) (i : Nat) (hi : i < 5) : (frqV l)[k * 5 + i]? = (frqCells x)[i]? := by
 induction l generalizing k with
 | nil => simp at h
 | cons y l ih =>
   show (frqCells y ++ frqV l)[k * 5 + i]? = _
   cases k with
   | zero =>
     simp at h
     subst h
     rw [List.getElem?_append_left (by rw [frqCells_len]; omega)]
     simp
   | succ k =>
     simp at h
     rw [List.getElem?_append_right (by rw [frqCells_len]; omega), frqCells_len, show (k + 1) * 5 + i - 5 = k * 5 + i by omega]
     exact ih k h
def set5 (l : List Value) (j : Nat) (c : List Value) : List Value := ((((l.set j (c.getD 0 undef)).set (j + 1) (c.getD 1 undef)).set (j + 2) (c.getD 2 undef)).set (j + 3) (c.getD 3 undef)).set (j + 4) (c.getD 4 undef)
theorem set5_skip (p l : List Value) (j : Nat) (c : List Value) : set5 (p ++ l) (p.length + j) c = p ++ set5 l j c := by
 unfold set5
 rw [List.set_append_right _ _ (by omega), List.set_append_right _ _ (by omega), List.set_append_right _ _ (by omega), List.set_append_right _ _ (by omega), List.set_append_right _ _ (by omega)]
 congr 1
 rw [show p.length + j - p.length = j by omega, show p.length + j + 1 - p.length = j + 1 by omega, show p.length + j + 2 - p.length = j + 2 by omega, show p.length + j + 3 - p.length = j + 3 by omega, show p.length + j + 4 - p.length = j + 4 by omega]
theorem frqV_set5 : ∀ (l : Frs) (k : Nat) (_ : k < l.length) (x : Option Fr8), set5 (frqV l) (k * 5) (frqCells x) = frqV (l.set k x)
 | [], k, h, _ => by simp at h
 | y :: l, 0, _, x => by
   show set5 (frqCells y ++ frqV l) 0 (frqCells x) = frqCells x ++ frqV l
   cases x <;> cases y <;> rfl
 | y :: l, k + 1, h, x => by
   show set5 (frqCells y ++ frqV l) ((k + 1) * 5) (frqCells x) = frqCells y ++ frqV (l.set k x)
   have e : (k + 1) * 5 = (frqCells y).length + k * 5 := by rw [frqCells_len]; omega
   rw [e, set5_skip, frqV_set5 l k (by simpa using h) x]
structure A9 where
 q : Nat
 gf : Nat
 cap : Nat
 s : Nat
 g : Nat
 gd : Nat
 base : Nat
 n : Nat
def OfQ (A : A9) : Foot := fun b => b = A.q ∨ b = A.gf
def poolqCells (A : A9) (c hand : Nat) : Array Value := #[.pointer (some ⟨A.s, 0, none⟩), .pointer (some ⟨A.g, 0, none⟩), .slice (some ⟨A.gf, 0, none⟩) c A.cap, .int .i64 hand]
structure IsQ (w : World) (A : A9) (l : Frs) (hand : Nat) : Prop where
 head : Blk w A.q 77 (poolqCells A l.length hand)
 rows : w.ownsRow 0 74 5 (.slice (some ⟨A.gf, 0, none⟩) l.length A.cap) l.length (frqV l)
namespace IsQ
variable {w w' : World} {A : A9} {l : Frs} {hand : Nat}
theorem keep (h : IsQ w A l hand) (hk : ∀ b, OfQ A b → w'.heap[b]? = w.heap[b]?) : IsQ w' A l hand :=
 ⟨(hk _ (.inl rfl)).trans h.head, own_keep h.rows fun b hb => hk b (.inr (by simpa [Value.ownBlock] using hb.symm))⟩
theorem lt (h : IsQ w A l hand) : ∀ b, OfQ A b → b < w.heap.size := by
 rintro b (rfl | rfl)
 · exact h.head.lt
 · exact (h.rows.lt A.gf rfl).2
theorem below (h : IsQ w A l hand) (hb : Below w.heap.size w w') : IsQ w' A l hand := h.keep fun b hb2 => hb.block b (h.lt b hb2)
theorem qgf (h : IsQ w A l hand) : A.q ≠ A.gf := fun e => own_blk h.rows h.head (by decide) (by rw [e]; rfl)
theorem cells (h : IsQ w A l hand) : w.cell? ⟨A.q, 0, none⟩ = some (.pointer (some ⟨A.s, 0, none⟩)) ∧ w.cell? ⟨A.q, 1, none⟩ = some (.pointer (some ⟨A.g, 0, none⟩)) ∧ w.cell? ⟨A.q, 2, none⟩ = some (.slice (some ⟨A.gf, 0, none⟩) l.length A.cap) ∧ w.cell? ⟨A.q, 3, none⟩ = some (.int .i64 hand) :=
 ⟨h.head.cell 0, h.head.cell 1, h.head.cell 2, h.head.cell 3⟩
theorem row (h : IsQ w A l hand) {k : Nat} {x : Option Fr8} (hk : l[k]? = some x) (i : Nat) (hi : i < 5) : w.cell? ⟨A.gf, k * 5 + i, none⟩ = (frqCells x)[i]? := by
 have hlt := (List.getElem?_eq_some_iff.1 hk).1
 rw [h.rows.cellAt (k * 5 + i) (by omega)]
 exact frqV_at l k x hk i hi
theorem rowN (h : IsQ w A l hand) {k : Nat} (hk : l[k]? = some none) : w.cell? ⟨A.gf, k * 5, none⟩ = some (.int .i64 (-1)) ∧ w.cell? ⟨A.gf, k * 5 + 1, none⟩ = some (.int .i64 0) ∧ w.cell? ⟨A.gf, k * 5 + 2, none⟩ = some (.string ⟨#[]⟩) ∧ w.cell? ⟨A.gf, k * 5 + 3, none⟩ = some (.bool false) ∧ w.cell? ⟨A.gf, k * 5 + 4, none⟩ = some (.int .i64 0) :=
 ⟨h.row hk 0 (by omega), h.row hk 1 (by omega), h.row hk 2 (by omega), h.row hk 3 (by omega), h.row hk 4 (by omega)⟩
theorem rowS (h : IsQ w A l hand) {k : Nat} {f : Fr8} (hk : l[k]? = some (some f)) : w.cell? ⟨A.gf, k * 5, none⟩ = some (.int .i64 f.no) ∧ w.cell? ⟨A.gf, k * 5 + 1, none⟩ = some (.int .i64 f.pg.1) ∧ w.cell? ⟨A.gf, k * 5 + 2, none⟩ = some (.string f.pg.2) ∧ w.cell? ⟨A.gf, k * 5 + 3, none⟩ = some (.bool f.dirty) ∧ w.cell? ⟨A.gf, k * 5 + 4, none⟩ = some (.int .i64 f.since) :=
 ⟨h.row hk 0 (by omega), h.row hk 1 (by omega), h.row hk 2 (by omega), h.row hk 3 (by omega), h.row hk 4 (by omega)⟩
theorem rowNo (h : IsQ w A l hand) {k : Nat} (hk : k < l.length) : w.cell? ⟨A.gf, k * 5, none⟩ = some (.int .i64 (match l.getD k none with | some f => (f.no : Int) | none => -1)) := by
 have e : l[k]? = some l[k] := List.getElem?_eq_getElem hk
 rw [List.getD_eq_getElem?_getD, e, Option.getD_some]
 cases hx : l[k] with
 | none => rw [hx] at e; exact (h.rowN e).1
 | some f => rw [hx] at e; exact (h.rowS e).1
end IsQ
def World.put5 (w : World) (gf k : Nat) (c : List Value) : World := (((((w.setCell ⟨gf, k * 5, none⟩ (c.getD 0 undef)).setCell ⟨gf, k * 5 + 1, none⟩ (c.getD 1 undef)).setCell ⟨gf, k * 5 + 2, none⟩ (c.getD 2 undef)).setCell ⟨gf, k * 5 + 3, none⟩ (c.getD 3 undef)).setCell ⟨gf, k * 5 + 4, none⟩ (c.getD 4 undef))
theorem put5_other (w : World) (gf k : Nat) (c : List Value) {b : Nat} (hb : b ≠ gf) : (World.put5 w gf k c).heap[b]? = w.heap[b]? := by
 unfold World.put5
 rw [heap_setCell_other _ _ _ _ hb, heap_setCell_other _ _ _ _ hb, heap_setCell_other _ _ _ _ hb, heap_setCell_other _ _ _ _ hb, heap_setCell_other _ _ _ _ hb]
theorem put5_step {F : Foot} (w : World) {gf : Nat} (k : Nat) (c : List Value) (hF : F gf) : Step F F w (World.put5 w gf k c) :=
 (((((Step.refl F w).set (p := ⟨gf, k * 5, none⟩) hF _).set (p := ⟨gf, k * 5 + 1, none⟩) hF _).set (p := ⟨gf, k * 5 + 2, none⟩) hF _).set (p := ⟨gf, k * 5 + 3, none⟩) hF _).set (p := ⟨gf, k * 5 + 4, none⟩) hF _
theorem IsQ.put5 {w : World} {A : A9} {l : Frs} {hand : Nat} (h : IsQ w A l hand) {k : Nat} (hk : k < l.length) (x : Option Fr8) : IsQ (World.put5 w A.gf k (frqCells x)) A (l.set k x) hand := by
 refine ⟨?_, ?_⟩
 · have := h.head
   rw [show (l.set k x).length = l.length by simp]
   exact (put5_other w A.gf k _ h.qgf).trans this
 · rw [show (l.set k x).length = l.length by simp, ← frqV_set5 l k hk x]
   exact (((((h.rows.stored (k * 5) _).1.stored (k * 5 + 1) _).1.stored (k * 5 + 2) _).1.stored (k * 5 + 3) _).1.stored (k * 5 + 4) _).1
theorem IsQ.setHand {w : World} {A : A9} {l : Frs} {hand : Nat} (h : IsQ w A l hand) (x : Nat) : IsQ (w.setCell ⟨A.q, 3, none⟩ (.int .i64 x)) A l x :=
 ⟨h.head.set 3 _, own_keep h.rows fun b hb => heap_setCell_other w ⟨A.q, 3, none⟩ b _ fun e => by simp [Value.ownBlock] at hb; exact h.qgf (by show A.q = A.gf; rw [hb]; exact e.symm)⟩
structure Is9 (w : World) (FD FL : Foot) (A : A9) (Y : Y8) : Prop where
 sto : IsR7 w FD A.s A.gd Y.D A.base A.n Y.t
 log : IsRL w FL A.g A.gd Y.lg
 pool : IsQ w A Y.l Y.hand
 dl : ∀ b, FD b → ¬ FL b
 ls : ¬ FL A.s
 pd : ∀ b, OfQ A b → ¬ FD b ∧ b ≠ A.s ∧ ¬ FL b
 ok : Ok8 A.base A.n Y
def F9 (FD FL : Foot) (A : A9) : Foot := fun b => (FD b ∨ b = A.s) ∨ FL b ∨ OfQ A b
def Pool9 (w : World) (F : Foot) (A : A9) (Y : Y8) : Prop := ∃ FD FL, Is9 w FD FL A Y ∧ F = F9 FD FL A
def Out9 (w : World) (F : Foot) (A : A9) (Y : Y8) (v : Value) (e : Ending) (w' : World) : Prop := e = .returned v ∧ ∃ F', Pool9 w' F' A Y ∧ Step F F' w w'
theorem Is9.more {w w' : World} {FD FL : Foot} {A : A9} {Y : Y8} (h : Is9 w FD FL A Y) (hb : Below w.heap.size w w') : Is9 w' FD FL A Y := ⟨h.sto.below hb, h.log.below hb, h.pool.below hb, h.dl, h.ls, h.pd, h.ok⟩
namespace Pool9
variable {w w' : World} {F : Foot} {A : A9} {Y : Y8}
theorem more (h : Pool9 w F A Y) (hb : Below w.heap.size w w') : Pool9 w' F A Y := by obtain ⟨FD, FL, h, rfl⟩ := h; exact ⟨FD, FL, h.more hb, rfl⟩
theorem ok (h : Pool9 w F A Y) : Ok8 A.base A.n Y := by obtain ⟨FD, FL, h, rfl⟩ := h; exact h.ok
theorem isQ (h : Pool9 w F A Y) : IsQ w A Y.l Y.hand := by obtain ⟨FD, FL, h, rfl⟩ := h; exact h.pool
theorem lt (h : Pool9 w F A Y) : ∀ b, F b → b < w.heap.size := by
 obtain ⟨FD, FL, h, rfl⟩ := h
 rintro b ((hb | rfl) | hb | hb)
 · exact h.sto.disk.lt b hb
 · exact h.sto.head.lt
 · exact h.log.lt b hb
 · exact h.pool.lt b hb
theorem ofQ (h : Pool9 w F A Y) {b : Nat} (hb : OfQ A b) : F b := by obtain ⟨FD, FL, h, rfl⟩ := h; exact .inr (.inr hb)
theorem onPool (h : Pool9 w F A Y) {l : Frs} {hand : Nat} (hp : IsQ w' A l hand) (hs : Step (OfQ A) (OfQ A) w w') (hok : Ok8 A.base A.n { Y with l := l, hand := hand }) : Pool9 w' F A { Y with l := l, hand := hand } ∧ Step F F w w' := by
 obtain ⟨FD, FL, h, rfl⟩ := h
 have hn : ∀ b, FD b ∨ b = A.s ∨ FL b → ¬ OfQ A b := fun b hb hp => by
   obtain ⟨h1, h2, h3⟩ := h.pd b hp
   rcases hb with hb | hb | hb
   · exact h1 hb
   · exact h2 hb
   · exact h3 hb
 refine ⟨⟨FD, FL, ⟨⟨h.sto.disk.keep (fun b hb => hs.block b (h.sto.disk.lt b hb) (hn b (.inl hb))) hs.size, h.sto.ok, (hs.block _ h.sto.head.lt (hn _ (.inr (.inl rfl)))).trans h.sto.head, h.sto.apart, h.sto.b5, h.sto.n8⟩, ⟨h.log.1, h.log.2.elim fun vb r => ⟨vb, r.keep (fun b hb => hs.block b (r.lt b hb) (hn b (.inr (.inr hb)))) hs.size⟩⟩, hp, h.dl, h.ls, h.pd, hok⟩, rfl⟩, ⟨hs.os, hs.tape, hs.output, hs.size, fun b hb hF => hs.block b hb fun e => hF (.inr (.inr e)), fun b hb => .inl hb⟩⟩
end Pool9
theorem Is9.onSto {w w' : World} {FD FD' FL : Foot} {A : A9} {Y : Y8} {D : Dk} {t : Nat} {P : Nat → Pag} (h : Is9 w FD FL A Y) (hd : IsR7 w' FD' A.s A.gd D A.base A.n t) (hs : Step (OfS FD A.s) (OfS FD' A.s) w w') (hok : Ok8 A.base A.n { Y with D := D, t := t, P := P }) :
   Is9 w' FD' FL A { Y with D := D, t := t, P := P } ∧ Step (F9 FD FL A) (F9 FD' FL A) w w' := by
 have hfd : ∀ b, FD' b → FD b ∨ w.heap.size ≤ b := fun b hb => by
   rcases hs.foot b (.inl hb) with (h1 | h1) | h1
   · exact .inl h1
   · exact absurd (h1 ▸ hb) hd.apart
   · exact .inr h1
 refine ⟨⟨hd, ⟨h.log.1, h.log.2.elim fun vb r => ⟨vb, r.keep (fun b hb => hs.block b (r.lt b hb) (by
     rintro (e | e)
     · exact h.dl b e hb
     · exact h.ls (e ▸ hb))) hs.size⟩⟩, h.pool.keep fun b hb => hs.block b (h.pool.lt b hb) (by
     obtain ⟨h1, h2, h3⟩ := h.pd b hb
     rintro (e | e)
     · exact h1 e
     · exact h2 e), fun b hb hl => ?_, h.ls, fun b hb => ?_, hok⟩, ⟨hs.os, hs.tape, hs.output, hs.size, fun b hb hF => hs.block b hb fun e => hF (.inl e), fun b hb => ?_⟩⟩
 · rcases hfd b hb with h1 | h1
   · exact h.dl b h1 hl
   · have := h.log.lt b hl; omega
 · obtain ⟨h1, h2, h3⟩ := h.pd b hb
   refine ⟨fun hb' => ?_, h2, h3⟩
   rcases hfd b hb' with h4 | h4
   · exact h1 h4
   · have := h.pool.lt b hb; omega
 · rcases hb with hb | hb
   · exact (hs.foot b hb).imp .inl id
   · exact .inl (.inr hb)
theorem Is9.onLog {w w' : World} {FD FD' FL FL' : Foot} {A : A9} {Y : Y8} {D : Dk} {lg : Wl} (h : Is9 w FD FL A Y) (hd : SysR w' FD' FL' A.g A.gd D lg) (hs : Step (Both FD FL) (Both FD' FL') w w') (hok : Ok8 A.base A.n { Y with D := D, lg := lg }) :
   Is9 w' FD' FL' A { Y with D := D, lg := lg } ∧ Step (F9 FD FL A) (F9 FD' FL' A) w w' := by
 have hns : ¬ Both FD FL A.s := by
   rintro (e | e)
   · exact h.sto.apart e
   · exact h.ls e
 have hnew : ∀ b, Both FD' FL' b → b < w.heap.size → Both FD FL b := fun b hb hlt => (hs.foot b hb).elim id fun e => by omega
 have hnp : ∀ b, OfQ A b → ¬ Both FD FL b := fun b hb => by
   obtain ⟨h1, h2, h3⟩ := h.pd b hb
   rintro (e | e)
   · exact h1 e
   · exact h3 e
 refine ⟨⟨⟨hd.disk, hd.dok, (hs.block _ h.sto.head.lt hns).trans h.sto.head, fun e => hns (hnew _ (.inl e) h.sto.head.lt), h.sto.b5, h.sto.n8⟩, hd.log, h.pool.keep fun b hb => hs.block b (h.pool.lt b hb) (hnp b hb), hd.apart, fun e => hns (hnew _ (.inr e) h.sto.head.lt), fun b hb => ⟨fun e => hnp b hb (hnew b (.inl e) (h.pool.lt b hb)), (h.pd b hb).2.1, fun e => hnp b hb (hnew b (.inr e) (h.pool.lt b hb))⟩, hok⟩,
   ⟨hs.os, hs.tape, hs.output, hs.size, fun b hb hF => hs.block b hb fun e => hF (e.elim (fun e => .inl (.inl e)) fun e => .inr (.inl e)), fun b hb => ?_⟩⟩
 rcases hb with (hb | hb) | hb | hb
 · exact (hs.foot b (.inl hb)).imp (fun e => e.elim (fun e => .inl (.inl e)) fun e => .inr (.inl e)) id
 · exact .inl (.inl (.inr hb))
 · exact (hs.foot b (.inr hb)).imp (fun e => e.elim (fun e => .inl (.inl e)) fun e => .inr (.inl e)) id
 · exact .inl (.inr (.inr hb))
theorem Is9.sys {w : World} {FD FL : Foot} {A : A9} {Y : Y8} (h : Is9 w FD FL A Y) : SysR w FD FL A.g A.gd Y.D Y.lg := ⟨h.sto.disk, h.sto.ok, h.log, h.dl⟩
end Go.Proofs.YtbplgbkbggmaeaaGreat

namespace Go.Proofs.YtbplgbkbggmaeaaGreat
open Go.RowKit
theorem holds_at {l : Frs} {i : Int} {k : Nat} (hk : k < l.length) (h1 : isNo i l[k] = true) (h0 : ∀ j, j < k → isNo i (l.getD j none) = false) : holds l i = some k := by
 unfold holds
 rw [List.findIdx?_eq_some_iff_getElem]
 refine ⟨hk, h1, fun j hj => ?_⟩
 have := h0 j hj
 rw [List.getD_eq_getElem?_getD, List.getElem?_eq_getElem (by omega), Option.getD_some] at this
 rw [this]
 simp
theorem holds_no {l : Frs} {i : Int} (h0 : ∀ j, j < l.length → isNo i (l.getD j none) = false) : holds l i = none := by
 unfold holds
 rw [List.findIdx?_eq_none_iff]
 intro x hx
 obtain ⟨j, hj, rfl⟩ := List.getElem_of_mem hx
 have := h0 j hj
 rw [List.getD_eq_getElem?_getD, List.getElem?_eq_getElem hj, Option.getD_some] at this
 exact this
section
variable {w : World} {F : Foot} {A : A9} {Y : Y8}
set_option maxRecDepth 100000 in
set_option maxHeartbeats 8000000 in
theorem rqHolds_any (h : Pool9 w F A Y) (i : Int) : Calls Tryz.prog 32 #[.pointer (some ⟨A.q, 0, none⟩), .int .i64 i] w fun e w' => e = .returned (.int .i64 (holdsI Y.l i)) ∧ w = w' := by
 have hq := h.isQ
 obtain ⟨_, _, c2, _⟩ := hq.cells
 have h8 : (Y.l.length : Int) ≤ 8 := by have := h.ok.len8; omega
 have HQ := Lib.hid hq
 clear hq h
 generalize hl : Y.l = l at *
 clear hl
 go_enter Tryz.func32, Tryz.ntmps32
 go_wp2_with fail
 go_loopw [5] (fun vk wk => ∃ k : Nat, vk = .int .i64 k ∧ k ≤ l.length ∧ wk = w ∧ Hid (∀ j, j < k → isNo i (l.getD j none) = false)) (fun vk _ => l.length - (intOf vk).toNat)
 case atStart => exact ⟨0, rfl, Nat.zero_le _, rfl, Lib.hid fun j hj => by omega⟩
 case round =>
   obtain ⟨k, rfl, hkl, hw, hno⟩ := hrel
   replace hw := hw.symm
   subst hw
   by_cases hlt : k < l.length
   · have c0 := HQ.out.rowNo hlt
     have hltI : (k : Int) < l.length := by omega
     have hk0 : (0 : Int) ≤ k := by omega
     have hx : l.getD k none = l[k] := by rw [List.getD_eq_getElem?_getD, List.getElem?_eq_getElem hlt, Option.getD_some]
     rw [hx] at c0
     have HX := Lib.hid hx
     clear hx
     by_cases hy : isNo i l[k] = true
     · obtain ⟨f, hf, hi⟩ := isNo_iff.1 hy
       rw [hf] at c0
       have hh0 := holds_at hlt hy hno.out
       have hh : Hid (holdsI l i = (k : Int)) := by show _ = _; unfold holdsI; rw [hh0]
       clear hh0
       subst hi
       have hn : (0 : Int) ≤ (f.no : Int) := by omega
       change w.cell? _ = some (.int .i64 (f.no : Int)) at c0
       clear hy hf HX hno HQ
       go_wp2
       go_ret
       exact ⟨by rw [hh.out]; rfl, rfl⟩
     · rw [Bool.not_eq_true] at hy
       have hno2 : Hid (∀ j, j < k + 1 → isNo i (l.getD j none) = false) := fun j hj => by
         by_cases e : j = k
         · subst e; rw [HX.out]; exact hy
         · exact hno.out j (by omega)
       have hnxt : ∃ x : Int, w.cell? ⟨A.gf, k * 5, none⟩ = some (.int .i64 x) ∧ ((x == i) = false ∨ (x = i ∧ i < 0)) := by
         cases hc : l[k] with
         | none =>
           rw [hc] at c0
           refine ⟨-1, c0, ?_⟩
           by_cases hi : (-1 : Int) = i
           · exact .inr ⟨hi, by omega⟩
           · exact .inl (by simpa using hi)
         | some f =>
           rw [hc] at c0 hy
           refine ⟨f.no, c0, .inl ?_⟩
           simpa [isNo] using hy
       clear c0 hy HX hno
       obtain ⟨x, c0, hx | ⟨rfl, hx⟩⟩ := hnxt
       · go_wp2
         go_roundw
         case rel => exact ⟨k + 1, by go_num, by omega, trivial, hno2⟩
         case measure => simp [intOf]; omega
       · have hx2 : decide ((0 : Int) ≤ x) = false := by simp; omega
         go_wp2
         go_roundw
         case rel => exact ⟨k + 1, by go_num, by omega, trivial, hno2⟩
         case measure => simp [intOf]; omega
   · obtain rfl : k = l.length := by omega
     have hh0 := holds_no hno.out
     have hh : Hid (holdsI l i = -1) := by show _ = _; unfold holdsI; rw [hh0]
     clear hh0
     go_wp2
     go_ret
     exact ⟨by rw [hh.out]; rfl, rfl⟩
end
end Go.Proofs.YtbplgbkbggmaeaaGreat
