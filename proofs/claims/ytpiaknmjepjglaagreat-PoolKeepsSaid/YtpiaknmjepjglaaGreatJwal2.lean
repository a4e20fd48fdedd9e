/- Texts that belong together, joined: EntQ, RecAll, WalF, WalG, WlC, WlD, WalH, WalI, WalJ, WalK, WlE. -/
import Derived.Test.YtpiaknmjepjglaaGreatEntP
import Derived.Test.YtpiaknmjepjglaaGreatEnt
import Derived.Test.YtpiaknmjepjglaaGreatRecF
import Derived.Test.YtpiaknmjepjglaaGreatRecL
import Derived.Deep.AppendLies
import Derived.Test.YtpiaknmjepjglaaGreatJwal
import Derived.WalkMore
import Derived.IntWalk
import Derived.Deep.LoopGhost
import Derived.Test.YtpiaknmjepjglaaGreatJdisk
import Derived.Test.YtpiaknmjepjglaaGreatRecM2
/- Entries that one owns: a list that was appended to; each record's rows lie in blocks that are not the list's. -/
namespace Go.Proofs.YtpiaknmjepjglaaGreat
open Go.RowKit

structure Qe where
  at_ : Int
  r : Rc
  vt : Value
  vp : Value
def Qe.ent (x : Qe) : Ent := (x.at_, x.r)
def Qe.cells (x : Qe) : List Value := .int .i64 x.at_ :: (recCells x.r x.vt x.vp).toList
theorem Qe.cells_len (x : Qe) : x.cells.length = 12 := rfl
def entsV (q : List Qe) : List Value := q.flatMap Qe.cells
theorem entsV_len (q : List Qe) : (entsV q).length = q.length * 12 := by
  induction q with
  | nil => rfl
  | cons x q ih => show (x.cells ++ entsV q).length = _; rw [List.length_append, ih, Qe.cells_len, List.length_cons]; omega
theorem entsV_snoc (q : List Qe) (x : Qe) : entsV (q ++ [x]) = entsV q ++ x.cells := by simp [entsV]
theorem entsV_at : ∀ (q : List Qe) (j : Nat) (h : j < q.length) (i : Nat) (_ : i < 12), (entsV q)[j * 12 + i]? = q[j].cells[i]?
  | [], j, h, _, _ => by simp at h
  | x :: q, 0, _, i, hi => by
    show (x.cells ++ entsV q)[0 * 12 + i]? = x.cells[i]?
    rw [List.getElem?_append_left (by rw [Qe.cells_len]; omega)]
    simp
  | x :: q, j + 1, h, i, hi => by
    show (x.cells ++ entsV q)[(j + 1) * 12 + i]? = _
    rw [List.getElem?_append_right (by rw [Qe.cells_len]; omega), Qe.cells_len, show (j + 1) * 12 + i - 12 = j * 12 + i by omega, entsV_at q j (by simpa using h) i hi]
    rfl
/-- Rows that aren't empty lie in no block of v's. -/
def Apart (v : Value) (x : Qe) : Prop := ∀ b, v.ownBlock = some b → (rows3 x.r.txns ≠ [] → x.vt.ownBlock ≠ some b) ∧ (rows2 x.r.pages ≠ [] → x.vp.ownBlock ≠ some b)
theorem Lists.keepA {S : Nat → Prop} {w w' : World} {r : Rc} {vt vp : Value} (h : Lists w r vt vp) (hb : Only S w w') (ht : rows3 r.txns ≠ [] → ∀ b, vt.ownBlock = some b → ¬ S b) (hp : rows2 r.pages ≠ [] → ∀ b, vp.ownBlock = some b → ¬ S b) : Lists w' r vt vp :=
  ⟨h.t.keepS hb ht, h.p.keepS hb hp⟩
theorem Elems.blt {w : World} {v : Value} {n : Nat} {xs : List Value} (h : Elems w v n xs) (hx : xs ≠ []) : ∀ b, v.ownBlock = some b → b < w.heap.size := by
  obtain ⟨b, off, cap, rfl, _, _, hb, _⟩ := h.cases hx
  intro b' hb'
  cases hb'
  exact hb
namespace OwnE
variable {w w' : World} {B : Nat} {v : Value} {q : List Qe}
end OwnE
end Go.Proofs.YtpiaknmjepjglaaGreat

/- Package record: All. -/
namespace Go.Proofs.YtpiaknmjepjglaaGreat
open Go.RowKit

/-- Rows that aren't empty lie in blocks from B on. -/
def FreshQ (B : Nat) (q : List Qe) : Prop := ∀ x ∈ q, (rows3 x.r.txns ≠ [] → ∀ b, x.vt.ownBlock = some b → B ≤ b) ∧ (rows2 x.r.pages ≠ [] → ∀ b, x.vp.ownBlock = some b → B ≤ b)
theorem FreshQ.nil (B : Nat) : FreshQ B [] := fun x h => by simp at h
theorem FreshQ.snoc {B : Nat} {q : List Qe} {x : Qe} (h : FreshQ B q) (ht : ∀ b, x.vt.ownBlock = some b → B ≤ b) (hp : ∀ b, x.vp.ownBlock = some b → B ≤ b) : FreshQ B (q ++ [x]) := fun y hy => by
  rcases List.mem_append.1 hy with hy | hy
  · exact h y hy
  · simp at hy; subst hy; exact ⟨fun _ => ht, fun _ => hp⟩
def allCode (o : Option (List Ent)) : Int := if o.isSome then 0 else 3
def entryZero : Value := .agg #[.int .i64 0, .int .i64 0, .int .i64 0, .int .i64 0, .int .i64 0, .int .i64 0, .int .i64 0, .int .i64 0, .string ⟨#[]⟩, .string ⟨#[]⟩, .slice none 0 0, .slice none 0 0]
abbrev allS (s : ByteArray) : Option (List Ent) := allL s.data.toList.length 0 s.data.toList

end Go.Proofs.YtpiaknmjepjglaaGreat

/- Package wal: the bodies of the slabs that are the log's. -/
namespace Go.Proofs.YtpiaknmjepjglaaGreat
open Go.RowKit

/-- The bodies of slabs, from the number i on, as far as they are the log's. -/
def wholeP : Nat → Nat → List Slab3 → List ByteArray
  | _, _, [] => []
  | a, i, x :: xs => if x.2.1 = i ∧ x.2.2.size ≠ 0 ∧ (allS x.2.2).isSome = true ∧ a ≤ x.1 then x.2.2 :: wholeP x.1 (i + 1) xs else []
theorem wholeP_go {a i : Nat} {x : Slab3} {xs : List Slab3} (h1 : x.2.1 = i) (h2 : x.2.2.size ≠ 0) (h3 : (allS x.2.2).isSome = true) (h4 : a ≤ x.1) : wholeP a i (x :: xs) = x.2.2 :: wholeP x.1 (i + 1) xs := by
  rw [wholeP, if_pos ⟨h1, h2, h3, h4⟩]
theorem wholeP_stop {a i : Nat} {x : Slab3} {xs : List Slab3} (h : ¬ (x.2.1 = i ∧ x.2.2.size ≠ 0 ∧ (allS x.2.2).isSome = true ∧ a ≤ x.1)) : wholeP a i (x :: xs) = [] := by
  rw [wholeP, if_neg h]
theorem toList_nil {u : ByteArray} (h : u.size = 0) : (u.toList == []) = true := by
  rw [ByteArray.toList_eq]
  have h2 : u.data.toList.length = 0 := h
  rw [List.eq_nil_of_length_eq_zero h2]
  rfl
def WholeOut (w : World) (bs : List ByteArray) (e : Ending) (w' : World) : Prop := ∃ vb, e = .returned vb ∧ w'.ownsRow w.heap.size 9 1 vb bs.length (strsV bs) ∧ Below w.heap.size w w'
end Go.Proofs.YtpiaknmjepjglaaGreat

/- Package wal: Open. -/
namespace Go.Proofs.YtpiaknmjepjglaaGreat
open Go.RowKit

def epochOf (L : List Slab3) : Nat := L.foldl (fun e x => max e (x.1 + 1)) 1
theorem epochOf_snoc (L : List Slab3) (x : Slab3) : epochOf (L ++ [x]) = max (epochOf L) (x.1 + 1) := by simp [epochOf]
theorem epochOf_le {L : List Slab3} (h : ∀ x ∈ L, x.1 < 4294967296) : 1 ≤ epochOf L ∧ epochOf L ≤ 4294967296 := by
  revert h
  refine snoc_ind (p := fun L => (∀ x ∈ L, x.1 < 4294967296) → 1 ≤ epochOf L ∧ epochOf L ≤ 4294967296) (fun _ => by simp [epochOf]) ?_ L
  intro L x ih h
  rw [epochOf_snoc]
  have := ih fun y hy => h y (by simp [hy])
  have := h x (by simp)
  omega
theorem epochOf_gt {L : List Slab3} {x : Slab3} (h : x ∈ L) : x.1 < epochOf L := by
  revert h
  refine snoc_ind (p := fun L => x ∈ L → x.1 < epochOf L) (fun h => by simp at h) ?_ L
  intro L y ih h
  rw [epochOf_snoc]
  rcases List.mem_append.1 h with h | h
  · have := ih h; omega
  · simp at h; subst h; omega
theorem slab3_ok (s : ByteArray) : (slab3 s).1 < 4294967296 ∧ (slab3 s).2.1 < 4294967296 ∧ (slab3 s).2.2.size ≤ 112 := by
  unfold slab3
  split
  · rename_i h; exact ⟨num4_lt _, num4_lt _, partB_size h⟩
  · exact ⟨by decide, by decide, Nat.zero_le _⟩
theorem ring_mem {l : Wl} {D : Dk} {k : Nat} {x : Slab3} (h : x ∈ ringOf l D k) : x.1 < 4294967296 ∧ x.2.1 < 4294967296 ∧ x.2.2.size ≤ 112 := by
  unfold ringOf at h
  obtain ⟨i, _, rfl⟩ := List.mem_map.1 h
  exact slab3_ok _
theorem wholeP_len : ∀ (a i : Nat) (L : List Slab3), (wholeP a i L).length ≤ L.length
  | _, _, [] => Nat.le_refl _
  | a, i, x :: L => by
    unfold wholeP
    split
    · have := wholeP_len x.1 (i + 1) L; simp only [List.length_cons]; omega
    · simp
theorem wholeP_mem : ∀ (a i : Nat) (L : List Slab3) (b : ByteArray), b ∈ wholeP a i L → (∃ x ∈ L, x.2.2 = b) ∧ b.size ≠ 0 ∧ (allS b).isSome = true
  | _, _, [], b, h => by simp [wholeP] at h
  | a, i, x :: L, b, h => by
    unfold wholeP at h
    split at h
    · rename_i hc
      rcases List.mem_cons.1 h with rfl | h
      · exact ⟨⟨x, by simp, rfl⟩, hc.2.1, hc.2.2.1⟩
      · obtain ⟨⟨y, hy, e⟩, h2⟩ := wholeP_mem _ _ L b h
        exact ⟨⟨y, by simp [hy], e⟩, h2⟩
    · simp at h
/-- The head that is opened. -/
def Wl.head (base n low : Nat) : Wl := { Wl.new base n with low := low }
noncomputable def Wl.opened (D : Dk) (base n low : Nat) : Wl :=
  ⟨base, n, epochOf (ringOf (Wl.head base n low) D n), low, low + (wholeP 0 low (ringOf (Wl.head base n low) D n)).length, (wholeP 0 low (ringOf (Wl.head base n low) D n)).map recsOf⟩
theorem Wl.opened_bodies (D : Dk) (base n low : Nat) : (Wl.opened D base n low).secs.map bodyS = wholeP 0 low (ringOf (Wl.head base n low) D n) := by
  unfold Wl.opened
  simp only [List.map_map]
  conv => rhs; rw [← List.map_id (wholeP 0 low (ringOf (Wl.head base n low) D n))]
  refine List.map_congr_left fun b hb => ?_
  exact (body_recs (wholeP_mem _ _ _ b hb).2.2).1
theorem Wl.Ok.opened {D : Dk} {base n low : Nat} (h8 : 8 ≤ n) (h64 : n ≤ 64) (hb : base + n ≤ 512) (hl : 1 ≤ low) (hlm : low ≤ 16777216) : (Wl.opened D base n low).Ok := by
  have he := epochOf_le (L := ringOf (Wl.head base n low) D n) fun x hx => (ring_mem hx).1
  have hlen : (wholeP 0 low (ringOf (Wl.head base n low) D n)).length ≤ n := by
    have := wholeP_len 0 low (ringOf (Wl.head base n low) D n)
    simpa [ringOf] using this
  refine ⟨h8, h64, hb, hl, by show low ≤ _; omega, Nat.le_add_right _ _, ?_, ?_, fun rs hrs => ?_, he.1, he.2⟩
  · unfold Wl.end_ Wl.opened; simp
  · unfold Wl.opened; simpa using hlen
  · unfold Wl.opened at hrs
    obtain ⟨b, hbm, rfl⟩ := List.mem_map.1 hrs
    obtain ⟨⟨x, hx, rfl⟩, h0, hs⟩ := wholeP_mem _ _ _ b hbm
    obtain ⟨h1, h2⟩ := body_recs hs
    have hsz := congrArg ByteArray.size h1
    rw [bodyS_size] at hsz
    refine ⟨fun e => ?_, h2, by rw [hsz]; exact (ring_mem hx).2.2⟩
    rw [e] at hsz
    simp [body] at hsz
    omega
/-- A cell of the head is written. -/
theorem LogR.setHead {w : World} {F : Foot} {g gd : Nat} {l l' : Wl} {vb vb' : Value} {n m : Nat} {bs cs : List ByteArray} (h : LogR w F g gd l vb n bs) (i : Nat) (v : Value) (hc : (logCells gd l vb).setIfInBounds i v = logCells gd l' vb') {F' : Foot} (hF : ∀ b, F b → F' b) (hlt : ∀ b, F' b → b < w.heap.size)
    (hr : w.ownsRow 0 9 1 vb' m (strsV cs)) (hv : ∀ b, vb'.ownBlock = some b → F' b) : LogR (w.setCell ⟨g, i, none⟩ v) F' g gd l' vb' m cs :=
  ⟨hc ▸ h.head.set i v, own_keep hr fun b hb => heap_setCell_other w ⟨g, i, none⟩ b v fun e => own_blk hr h.head (by decide) (by rw [hb, e]), hF _ h.fg, hv, fun b hb => by simpa [World.setCell] using hlt b hb⟩
theorem own_zero {w : World} {base size n : Nat} {e : TypeId} {v : Value} {xs : List Value} (h : w.ownsRow base e size v n xs) : w.ownsRow 0 e size v n xs := by
  obtain ⟨hl, h | ⟨g, cap, cur, rfl, _, h2⟩⟩ := h
  · exact ⟨hl, .inl h⟩
  · exact ⟨hl, .inr ⟨g, cap, cur, rfl, Nat.zero_le _, h2⟩⟩
section
variable {w : World} {FD : Foot} {gd : Nat} {D : Dk}
end
end Go.Proofs.YtpiaknmjepjglaaGreat

/- A log behind crashes: what its disk has then, and what is opened of it; plain mathematics. -/
namespace Go.Proofs.YtpiaknmjepjglaaGreat
open Go.RowKit

/-- What is read of a ring is a beginning; what stands behind it counts only behind that. -/
theorem whole_cut : ∀ (L : List Slab3) (a i : Nat), ∃ a', (a' = a ∨ ∃ x ∈ L, x.1 = a') ∧ wholeP a' (i + (wholeP a i L).length) (L.drop (wholeP a i L).length) = [] ∧
    ∀ L', L'.take (wholeP a i L).length = L.take (wholeP a i L).length → wholeP a i L' = wholeP a i L ++ wholeP a' (i + (wholeP a i L).length) (L'.drop (wholeP a i L).length)
  | [], a, i => ⟨a, .inl rfl, by simp [wholeP], fun L' _ => by simp [wholeP]⟩
  | x :: L, a, i => by
    by_cases hc : x.2.1 = i ∧ x.2.2.size ≠ 0 ∧ (allS x.2.2).isSome = true ∧ a ≤ x.1
    · obtain ⟨h1, h2, h3, h4⟩ := hc
      rw [wholeP_go h1 h2 h3 h4]
      obtain ⟨a', e1, e2, e3⟩ := whole_cut L x.1 (i + 1)
      refine ⟨a', ?_, ?_, ?_⟩
      · rcases e1 with rfl | ⟨y, hy, e⟩
        · exact .inr ⟨x, by simp, rfl⟩
        · exact .inr ⟨y, by simp [hy], e⟩
      · rw [List.length_cons, List.drop_succ_cons, show i + ((wholeP x.1 (i + 1) L).length + 1) = i + 1 + (wholeP x.1 (i + 1) L).length by omega]
        exact e2
      · intro L' h
        rw [List.length_cons, List.take_succ_cons] at h
        cases L' with
        | nil => simp at h
        | cons y L' =>
          rw [List.take_succ_cons] at h
          obtain ⟨rfl, h⟩ := List.cons.inj h
          rw [wholeP_go h1 h2 h3 h4, e3 L' h, List.length_cons, List.drop_succ_cons, show i + ((wholeP y.1 (i + 1) L).length + 1) = i + 1 + (wholeP y.1 (i + 1) L).length by omega]
          rfl
    · rw [wholeP_stop hc]
      exact ⟨a, .inl rfl, by simpa using wholeP_stop hc, fun L' _ => by simp⟩

/-- A tail of the ring of which sectors were written: each is new, or (unless all are) as it was, or none. -/
def Mix (E : Nat) (full : Prop) : Nat → List ByteArray → List Slab3 → List Slab3 → Prop
  | _, [], T, T' => T' = T
  | k, b :: bs, x :: T, y :: T' => (y = (E, k, b) ∨ (¬ full ∧ (y = x ∨ y = (0, 0, ⟨#[]⟩)))) ∧ Mix E full (k + 1) bs T T'
  | _, _ :: _, _, _ => False
theorem mix_whole {E : Nat} {full : Prop} : ∀ (k a : Nat) (bs : List ByteArray) (T T' : List Slab3), Mix E full k bs T T' → a ≤ E → (∀ x ∈ T, x.1 < E) → wholeP a k T = [] → (∀ b ∈ bs, b.size ≠ 0 ∧ (allS b).isSome = true) →
    ∃ r, r ≤ bs.length ∧ (full → r = bs.length) ∧ wholeP a k T' = bs.take r
  | k, a, [], T, T', h, _, _, h3, _ => ⟨0, Nat.le_refl _, fun _ => rfl, by rw [show T' = T from h, h3]; rfl⟩
  | k, a, b :: bs, [], _, h, _, _, _, _ => by simp [Mix] at h
  | k, a, b :: bs, x :: T, [], h, _, _, _, _ => by simp [Mix] at h
  | k, a, b :: bs, x :: T, y :: T', h, h1, h2, h3, h4 => by
    obtain ⟨hy, hm⟩ := h
    rcases hy with rfl | ⟨hf, rfl | rfl⟩
    · have hb := h4 b (by simp)
      have hT : wholeP E (k + 1) T = [] := by
        cases T with
        | nil => rfl
        | cons z T => exact wholeP_stop fun hc => by have := h2 z (by simp); have := hc.2.2.2; omega
      obtain ⟨r, r1, r2, r3⟩ := mix_whole (k + 1) E bs T T' hm (Nat.le_refl _) (fun z hz => h2 z (by simp [hz])) hT fun b' hb' => h4 b' (by simp [hb'])
      refine ⟨r + 1, by simpa using r1, fun hf => by simpa using r2 hf, ?_⟩
      rw [wholeP_go (x := (E, k, b)) rfl hb.1 hb.2 h1, List.take_succ_cons, ← r3]
    · refine ⟨0, Nat.zero_le _, fun h => absurd h hf, ?_⟩
      have : ¬ (y.2.1 = k ∧ y.2.2.size ≠ 0 ∧ (allS y.2.2).isSome = true ∧ a ≤ y.1) := fun hc => by
        rw [wholeP_go hc.1 hc.2.1 hc.2.2.1 hc.2.2.2] at h3
        cases h3
      rw [wholeP_stop this]
      rfl
    · refine ⟨0, Nat.zero_le _, fun h => absurd h hf, ?_⟩
      rw [wholeP_stop fun hc => hc.2.1 rfl]
      rfl
theorem mix_of {E : Nat} {full : Prop} : ∀ (k : Nat) (bs : List ByteArray) (T T' : List Slab3), T'.length = T.length → bs.length ≤ T.length →
    (∀ i, ∀ (h1 : i < bs.length) (h2 : i < T.length) (h3 : i < T'.length), T'[i] = (E, k + i, bs[i]) ∨ (¬ full ∧ (T'[i] = T[i] ∨ T'[i] = (0, 0, ⟨#[]⟩)))) →
    (∀ i, bs.length ≤ i → ∀ (h2 : i < T.length) (h3 : i < T'.length), T'[i] = T[i]) → Mix E full k bs T T'
  | k, [], T, T', h1, _, _, h4 => List.ext_getElem h1 fun i h2 h3 => h4 i (Nat.zero_le _) h3 h2
  | k, b :: bs, [], T', h1, h2, _, _ => by simp at h2
  | k, b :: bs, x :: T, [], h1, h2, _, _ => by simp at h1
  | k, b :: bs, x :: T, y :: T', h1, h2, h3, h4 => by
    refine ⟨h3 0 (by simp) (by simp) (by simp), mix_of (k + 1) bs T T' (by simpa using h1) (by simpa using h2) (fun i g1 g2 g3 => ?_) fun i g1 g2 g3 => ?_⟩
    · have := h3 (i + 1) (by simpa using g1) (by simpa using g2) (by simpa using g3)
      simp only [List.getElem_cons_succ] at this
      rw [show k + 1 + i = k + (i + 1) by omega]
      exact this
    · exact h4 (i + 1) (by simpa using g1) (by simpa using g2) (by simpa using g3)
theorem mix_le {E : Nat} {full : Prop} : ∀ (k : Nat) (bs : List ByteArray) (T T' : List Slab3), Mix E full k bs T T' → (∀ x ∈ T, x.1 < E) → ∀ y ∈ T', y.1 ≤ E
  | k, [], T, T', h, h2, y, hy => by rw [show T' = T from h] at hy; exact Nat.le_of_lt (h2 y hy)
  | k, b :: bs, [], _, h, _, _, _ => by simp [Mix] at h
  | k, b :: bs, x :: T, [], h, _, _, _ => by simp [Mix] at h
  | k, b :: bs, x :: T, z :: T', h, h2, y, hy => by
    obtain ⟨hz, hm⟩ := h
    rcases List.mem_cons.1 hy with rfl | hy
    · rcases hz with rfl | ⟨_, rfl | rfl⟩
      · exact Nat.le_refl _
      · exact Nat.le_of_lt (h2 y (by simp))
      · exact Nat.zero_le _
    · exact mix_le (k + 1) bs T T' hm (fun x hx => h2 x (by simp [hx])) y hy
theorem mix_lt {E : Nat} {full : Prop} : ∀ (k : Nat) (bs : List ByteArray) (T T' : List Slab3), Mix E full k bs T T' → (∀ x ∈ T, x.1 < E) → ∀ y ∈ T'.drop bs.length, y.1 < E
  | k, [], T, T', h, h2, y, hy => by rw [show T' = T from h] at hy; exact h2 y (by simpa using hy)
  | k, b :: bs, [], _, h, _, _, _ => by simp [Mix] at h
  | k, b :: bs, x :: T, [], h, _, _, _ => by simp [Mix] at h
  | k, b :: bs, x :: T, z :: T', h, h2, y, hy => by
    rw [List.length_cons, List.drop_succ_cons] at hy
    exact mix_lt (k + 1) bs T T' h.2 (fun x hx => h2 x (by simp [hx])) y hy

/-- The ring from 1 on, as it lies in sectors that are safe. -/
noncomputable def sec3 (s : List ByteArray) (base n q : Nat) : Slab3 := slab3 (s.getD (base + q % n) zero128)
noncomputable def ring3 (s : List ByteArray) (base n : Nat) : List Slab3 := (List.range n).map fun i => sec3 s base n (1 + i)
theorem ring3_len (s : List ByteArray) (base n : Nat) : (ring3 s base n).length = n := by simp [ring3]
theorem ring3_at {s : List ByteArray} {base n i : Nat} (h : i < (ring3 s base n).length) : (ring3 s base n)[i] = sec3 s base n (1 + i) := by simp [ring3]
theorem ringOf_3 {D : Dk} (hw : D.waits = []) (base n : Nat) : ringOf (Wl.head base n 1) D n = ring3 D.safe base n := by
  unfold ringOf ring3 sec3
  refine List.map_congr_left fun i _ => ?_
  unfold Dk.at_ Wl.place Wl.head Wl.new
  rw [hw, lastOf_nil]
  simp only [Option.getD_none]
  rfl
theorem zero_slab3 : slab3 zero128 = (0, 0, ⟨#[]⟩) := by
  unfold slab3
  rw [if_neg]
  exact zeros_not
theorem packed_slab3 {E k : Nat} {b : ByteArray} (hE : E < 4294967296) (hk : k < 4294967296) (hb : b.size ≤ 112) : slab3 (packed E k b) = (E, k, b) := by
  unfold slab3
  rw [if_pos (isSlab_packed hE hk hb), partE_packed hE hb, partI_packed hk hb, partB_packed hb]
theorem place_inj {n q q' : Nat} (h1 : 1 ≤ q) (h2 : q ≤ n) (h1' : 1 ≤ q') (h2' : q' ≤ n) (h : q % n = q' % n) : q = q' := by
  rcases Nat.lt_or_eq_of_le h2 with g | g
  · rcases Nat.lt_or_eq_of_le h2' with g' | g'
    · rw [Nat.mod_eq_of_lt g, Nat.mod_eq_of_lt g'] at h; exact h
    · subst g'; rw [Nat.mod_self, Nat.mod_eq_of_lt g] at h; omega
  · subst g
    rcases Nat.lt_or_eq_of_le h2' with g' | g'
    · rw [Nat.mod_self, Nat.mod_eq_of_lt g'] at h; omega
    · omega

/-- The disk has what the log says is safe, and nothing newer. -/
structure Stands (D : Dk) (l : Wl) : Prop where
  low : l.low = 1
  room : l.base + l.size ≤ D.safe.length
  waits : D.waits = []
  gone : D.gone = false
  whole : wholeP 0 1 (ring3 D.safe l.base l.size) = (l.secs.take (l.first - 1)).map bodyS
  le : ∀ x ∈ ring3 D.safe l.base l.size, x.1 ≤ l.epoch
  lt : ∀ x ∈ (ring3 D.safe l.base l.size).drop (l.first - 1), x.1 < l.epoch
namespace Stands
variable {D : Dk} {l : Wl}
theorem arm (h : Stands D l) (k : Int) : Stands (D.arm k) l := ⟨h.low, h.room, h.waits, h.gone, h.whole, h.le, h.lt⟩
theorem opened {D : Dk} {base n : Nat} (hr : base + n ≤ D.safe.length) (hw : D.waits = []) (hg : D.gone = false) : Stands D (Wl.opened D base n 1) := by
  have hb := Wl.opened_bodies D base n 1
  rw [ringOf_3 hw] at hb
  have hlen : (Wl.opened D base n 1).secs.length = (Wl.opened D base n 1).first - 1 := by
    unfold Wl.opened; simp
  have hgt : ∀ x ∈ ring3 D.safe base n, x.1 < (Wl.opened D base n 1).epoch := fun x hx => by
    show x.1 < epochOf _
    rw [ringOf_3 hw]
    exact epochOf_gt hx
  refine ⟨rfl, hr, hw, hg, ?_, fun x hx => Nat.le_of_lt (hgt x hx), fun x hx => hgt x (List.mem_of_mem_drop hx)⟩
  rw [← hlen, List.take_length]
  exact hb.symm
theorem new {n base k : Nat} (hr : base + k ≤ n) : Stands (Dk.new n) (Wl.new base k) := by
  have hz : ∀ x ∈ ring3 (Dk.new n).safe base k, x = (0, 0, ⟨#[]⟩) := fun x hx => by
    unfold ring3 at hx
    obtain ⟨i, _, rfl⟩ := List.mem_map.1 hx
    unfold sec3
    rw [show (Dk.new n).safe.getD (base + (1 + i) % k) zero128 = zero128 by
      unfold Dk.new
      rw [List.getD_eq_getElem?_getD, List.getElem?_replicate]
      split <;> rfl]
    exact zero_slab3
  refine ⟨rfl, by simpa [Dk.new, Wl.new] using hr, rfl, rfl, ?_, fun x hx => ?_, fun x hx => ?_⟩
  · show wholeP 0 1 (ring3 (Dk.new n).safe base k) = []
    cases hL : ring3 (Dk.new n).safe base k with
    | nil => rfl
    | cons x L =>
      rw [hz x (by rw [hL]; simp)]
      exact wholeP_stop fun hc => hc.2.1 rfl
  · rw [hz x hx]; exact Nat.zero_le _
  · rw [hz x (List.mem_of_mem_drop hx)]; exact Nat.one_pos
theorem put (h : Stands D l) (ok : l.Ok) (r : Rc) : Stands D (l.put r) := by
  have h1 := ok.fl
  have h2 := ok.fe
  rw [h.low] at h1
  have hl := h.low
  unfold Wl.end_ at h2
  rw [hl] at h2
  have key : (l.put r).low = l.low ∧ (l.put r).base = l.base ∧ (l.put r).size = l.size ∧ (l.put r).epoch = l.epoch ∧ (l.put r).first = l.first ∧ (l.put r).secs.take (l.first - 1) = l.secs.take (l.first - 1) := by
    unfold Wl.put
    split
    · rename_i hj
      refine ⟨rfl, rfl, rfl, rfl, rfl, ?_⟩
      have hlt := hj.1
      unfold Wl.end_ at hlt
      rw [hl] at hlt
      simp only
      rw [List.take_append_of_le_length (by rw [List.length_dropLast]; omega), List.dropLast_eq_take, List.take_take]
      congr 1
      omega
    · split
      · exact ⟨rfl, rfl, rfl, rfl, rfl, List.take_append_of_le_length (by omega)⟩
      · exact ⟨rfl, rfl, rfl, rfl, rfl, rfl⟩
  obtain ⟨k1, k2, k3, k4, k5, k6⟩ := key
  refine ⟨by rw [k1, hl], by rw [k2, k3]; exact h.room, h.waits, h.gone, ?_, ?_, ?_⟩
  · rw [k2, k3, k5, k6]; exact h.whole
  · rw [k2, k3, k4]; exact h.le
  · rw [k2, k3, k4, k5]; exact h.lt
end Stands

/-- Writes of sectors, one behind the other. -/
def Wl.pairs (l : Wl) (f j : Nat) : List (Nat × ByteArray) := (List.range' f j).map fun q => (l.place q, l.sector q)
theorem Wl.pairs_cons (l : Wl) (f j : Nat) : l.pairs f (j + 1) = (l.place f, l.sector f) :: l.pairs (f + 1) j := by simp [Wl.pairs, List.range'_succ]
theorem writes_is (l : Wl) : ∀ (c : Nat) (D : Dk) (f : Nat), D.gone = false → (∀ q, f ≤ q → q < f + c → l.place q < D.safe.length ∧ (l.sector q).size = 128) →
    ∃ j, j ≤ c ∧ (l.writes D f c).1.safe = D.safe ∧ (l.writes D f c).1.waits = D.waits ++ l.pairs f j ∧ ((l.writes D f c).2 = 0 → j = c ∧ (l.writes D f c).1.gone = false) ∧ (D.fuse = none → (l.writes D f c).1.fuse = none ∧ (l.writes D f c).2 = 0)
  | 0, D, f, hg, _ => ⟨0, Nat.le_refl _, rfl, by simp [Wl.pairs, Wl.writes], fun _ => ⟨rfl, hg⟩, fun h => ⟨h, rfl⟩⟩
  | c + 1, D, f, hg, hq => by
    obtain ⟨h1, h2⟩ := hq f (Nat.le_refl _) (by omega)
    have has : D.has ((l.place f : Nat) : Int) := ⟨by omega, by omega⟩
    by_cases hb : D.bears = true
    · have e0 : D.writeE (l.place f) (l.sector f) = 0 := by unfold Dk.writeE; rw [if_pos has, if_pos h2, if_pos hb]
      have e1 : D.write (l.place f) (l.sector f) = { D.burn with waits := D.waits ++ [(l.place f, l.sector f)] } := by unfold Dk.write; rw [if_pos has, if_pos h2, if_pos hb]; rfl
      have e2 : l.writes D f (c + 1) = l.writes (D.write (l.place f) (l.sector f)) (f + 1) c := by rw [Wl.writes, if_pos e0]
      have hs : (D.write (l.place f) (l.sector f)).safe = D.safe := by rw [e1]; exact Dk.burn_safe D
      have hgone : (D.write (l.place f) (l.sector f)).gone = false := by rw [e1]; show D.burn.gone = false; unfold Dk.burn; rw [if_pos hb]; exact hg
      obtain ⟨j, j1, j2, j3, j4, j5⟩ := writes_is l c (D.write (l.place f) (l.sector f)) (f + 1) hgone fun q q1 q2 => by rw [hs]; exact hq q (by omega) (by omega)
      refine ⟨j + 1, by omega, by rw [e2, j2, hs], ?_, fun h => ?_, fun h => ?_⟩
      · rw [e2, j3, Wl.pairs_cons, e1]; simp
      · rw [e2] at h ⊢
        obtain ⟨q1, q2⟩ := j4 h
        exact ⟨by omega, q2⟩
      · rw [e2]
        refine j5 ?_
        rw [e1]
        show D.burn.fuse = none
        unfold Dk.burn
        rw [if_pos hb, h]
        rfl
    · have e0 : D.writeE (l.place f) (l.sector f) = 4 := by unfold Dk.writeE; rw [if_pos has, if_pos h2, if_neg hb]
      have e1 : D.write (l.place f) (l.sector f) = D.burn := by unfold Dk.write; rw [if_pos has, if_pos h2, if_neg hb]
      have e2 : l.writes D f (c + 1) = (D.burn, 4) := by rw [Wl.writes, if_neg (by rw [e0]; decide), e0, e1]
      refine ⟨0, Nat.zero_le _, by rw [e2]; exact Dk.burn_safe D, by rw [e2]; simp [Wl.pairs, Dk.burn_waits], fun h => ?_, fun h => ?_⟩
      · rw [e2] at h; cases h
      · exact absurd (show D.bears = true by unfold Dk.bears; rw [hg, h]; rfl) hb

/-- What is settled: sector by sector. -/
theorem settle_sec (l : Wl) (f j : Nat) (ft : Nat → Nat) (s : List ByteArray) (hs : l.base + l.size ≤ s.length) (hf : 1 ≤ f) (hj : f + j ≤ l.size + 1) (q : Nat) (h1 : 1 ≤ q) (h2 : q ≤ l.size) : ∀ k, k ≤ j →
    (settleTo ft (l.pairs f j) s k).getD (l.base + q % l.size) zero128 = if f ≤ q ∧ q < f + k then (if ft (q - f) = 1 then l.sector q else if ft (q - f) = 2 then zero128 else s.getD (l.base + q % l.size) zero128) else s.getD (l.base + q % l.size) zero128
  | 0, _ => by rw [if_neg (by omega)]; rfl
  | k + 1, hk => by
    have hlen : (l.pairs f j).length = j := by simp [Wl.pairs]
    have hget : (l.pairs f j)[k]'(by omega) = (l.place (f + k), l.sector (f + k)) := by simp [Wl.pairs]
    have ih := settle_sec l f j ft s hs hf hj q h1 h2 k (by omega)
    have hpq : l.base + q % l.size < (settleTo ft (l.pairs f j) s k).length := by rw [settleTo_len]; have := Nat.mod_lt q (show 0 < l.size by omega); omega
    rw [settleTo_succ _ _ _ _ (by omega), hget]
    by_cases hq : q = f + k
    · subst hq
      rw [if_neg (by omega)] at ih
      rw [if_pos (by omega), Nat.add_sub_cancel_left]
      unfold settleOne Wl.place
      by_cases t1 : ft k = 1
      · rw [if_pos t1, if_pos t1, List.getD_eq_getElem?_getD, List.getElem?_set_self hpq]; rfl
      · rw [if_neg t1, if_neg t1]
        by_cases t2 : ft k = 2
        · rw [if_pos t2, if_pos t2, List.getD_eq_getElem?_getD, List.getElem?_set_self hpq]; rfl
        · rw [if_neg t2, if_neg t2, ih]
    · have hne : l.place (f + k) ≠ l.base + q % l.size := fun e => hq (place_inj h1 h2 (by omega) (by omega) (Nat.add_left_cancel (show l.base + q % l.size = l.base + (f + k) % l.size from e.symm)))
      have hset : ∀ x, ((settleTo ft (l.pairs f j) s k).set (l.place (f + k)) x).getD (l.base + q % l.size) zero128 = (settleTo ft (l.pairs f j) s k).getD (l.base + q % l.size) zero128 := fun x => by
        rw [List.getD_eq_getElem?_getD, List.getElem?_set_ne hne, ← List.getD_eq_getElem?_getD]
      have : (settleOne (ft k) (l.place (f + k), l.sector (f + k)) (settleTo ft (l.pairs f j) s k)).getD (l.base + q % l.size) zero128 = (settleTo ft (l.pairs f j) s k).getD (l.base + q % l.size) zero128 := by
        unfold settleOne
        split
        · exact hset _
        · split
          · exact hset _
          · rfl
      rw [this, ih]
      by_cases hin : f ≤ q ∧ q < f + k
      · have hin2 : f ≤ q ∧ q < f + (k + 1) := by omega
        rw [if_pos hin, if_pos hin2]
      · have hin2 : ¬ (f ≤ q ∧ q < f + (k + 1)) := by omega
        rw [if_neg hin, if_neg hin2]
end Go.Proofs.YtpiaknmjepjglaaGreat

/- A log behind flushes and crashes; plain mathematics. -/
namespace Go.Proofs.YtpiaknmjepjglaaGreat
open Go.RowKit

namespace Stands
variable {D : Dk} {l : Wl}
theorem bodies (ok : l.Ok) (i : Nat) (h : i < l.secs.length) : (bodyS l.secs[i]).size ≤ 112 ∧ (bodyS l.secs[i]).size ≠ 0 ∧ (allS (bodyS l.secs[i])).isSome = true ∧ recsOf (bodyS l.secs[i]) = l.secs[i] := by
  obtain ⟨h1, h2, h3⟩ := ok.sec _ (List.getElem_mem h)
  refine ⟨by rw [bodyS_size]; exact h3, by rw [bodyS_size]; exact Nat.ne_of_gt (body_pos h2 h1), ?_, recsOf_body h2⟩
  show (allL _ _ _).isSome = true
  rw [allS_body h2]; rfl
theorem sector_at (h : Stands D l) (i : Nat) (hi : i < l.secs.length) : l.sector (1 + i) = packed l.epoch (1 + i) (bodyS l.secs[i]) := by
  unfold Wl.sector
  rw [h.low, Nat.add_sub_cancel_left, List.getD_eq_getElem?_getD, List.getElem?_eq_getElem hi]
  rfl
theorem first1 (h : Stands D l) (ok : l.Ok) : 1 ≤ l.first ∧ l.first - 1 ≤ l.secs.length ∧ l.end_ = 1 + l.secs.length := by
  have h1 := ok.fl
  have h2 := ok.fe
  unfold Wl.end_ at *
  rw [h.low] at *
  omega
theorem whole_len (h : Stands D l) (ok : l.Ok) : (wholeP 0 1 (ring3 D.safe l.base l.size)).length = l.first - 1 := by
  obtain ⟨h1, h2, h3⟩ := h.first1 ok
  rw [h.whole, List.length_map, List.length_take]
  omega
/-- Behind writes of j sectors, settled each by its fate. -/
theorem written (h : Stands D l) (ok : l.Ok) (hE : l.epoch < 4294967296) (j : Nat) (hj : l.first + j ≤ l.end_) (ft : Nat → Nat) (full : Prop) (hf : full → ∀ t, t < j → ft t = 1) :
    ∃ r, r ≤ j ∧ (full → r = j) ∧ wholeP 0 1 (ring3 (settleTo ft (l.pairs l.first j) D.safe j) l.base l.size) = (l.secs.take (l.first - 1 + r)).map bodyS ∧
      (∀ x ∈ ring3 (settleTo ft (l.pairs l.first j) D.safe j) l.base l.size, x.1 ≤ l.epoch) ∧ (∀ x ∈ (ring3 (settleTo ft (l.pairs l.first j) D.safe j) l.base l.size).drop (l.first - 1 + j), x.1 < l.epoch) := by
  obtain ⟨f1, f2, f3⟩ := h.first1 ok
  have hsz := ok.len
  have h64 := ok.s64
  have set := fun (q : Nat) (q1 : 1 ≤ q) (q2 : q ≤ l.size) => settle_sec l l.first j ft D.safe h.room f1 (by omega) q q1 q2 j (Nat.le_refl _)
  have hm := h.whole_len ok
  generalize hs' : settleTo ft (l.pairs l.first j) D.safe j = s' at *
  generalize hmm : l.first - 1 = m at *
  have hfm : l.first = 1 + m := by omega
  have hL : (ring3 D.safe l.base l.size).length = l.size := ring3_len _ _ _
  have hL' : (ring3 s' l.base l.size).length = l.size := ring3_len _ _ _
  have old : ∀ i, ∀ (g : i < (ring3 s' l.base l.size).length) (g' : i < (ring3 D.safe l.base l.size).length), ¬ (m ≤ i ∧ i < m + j) → (ring3 s' l.base l.size)[i] = (ring3 D.safe l.base l.size)[i] := fun i g g' hi => by
    rw [ring3_at, ring3_at]
    unfold sec3
    rw [set (1 + i) (by omega) (by omega), if_neg (by omega)]
  have htake : (ring3 s' l.base l.size).take m = (ring3 D.safe l.base l.size).take m := by
    refine List.ext_getElem (by simp [hL, hL']) fun i g1 g2 => ?_
    rw [List.length_take] at g1 g2
    rw [List.getElem_take, List.getElem_take]
    exact old i _ _ (by omega)
  let bs := ((l.secs.drop m).take j).map bodyS
  have hbs : bs.length = j := by simp [bs]; omega
  have bat : ∀ i, (g : i < j) → ∀ g2 : i < bs.length, bs[i] = bodyS (l.secs[m + i]'(by omega)) := fun i g g2 => by simp [bs]
  have hmix : Mix l.epoch full (1 + m) bs ((ring3 D.safe l.base l.size).drop m) ((ring3 s' l.base l.size).drop m) := by
    refine mix_of (1 + m) bs _ _ (by simp [hL, hL']) (by simp [hL, hbs]; omega) (fun i g1 g2 g3 => ?_) fun i g1 g2 g3 => ?_
    · rw [List.length_drop] at g2 g3
      rw [List.getElem_drop, List.getElem_drop, ring3_at, ring3_at, bat i (by omega)]
      have hi : m + i < l.secs.length := by omega
      obtain ⟨b1, b2, b3, b4⟩ := bodies ok (m + i) hi
      have hsec := h.sector_at (m + i) hi
      have e := set (1 + (m + i)) (by omega) (by omega)
      rw [if_pos (by omega)] at e
      have e2 : sec3 s' l.base l.size (1 + (m + i)) = slab3 (if ft (1 + (m + i) - l.first) = 1 then l.sector (1 + (m + i)) else if ft (1 + (m + i) - l.first) = 2 then zero128 else D.safe.getD (l.base + (1 + (m + i)) % l.size) zero128) := by
        unfold sec3; rw [e]
      rw [e2]
      by_cases t1 : ft (1 + (m + i) - l.first) = 1
      · rw [if_pos t1, hsec, packed_slab3 hE (by omega) b1]
        exact .inl (by rw [Nat.add_assoc])
      · rw [if_neg t1]
        refine .inr ⟨fun hfull => t1 (hf hfull _ (by omega)), ?_⟩
        by_cases t2 : ft (1 + (m + i) - l.first) = 2
        · rw [if_pos t2, zero_slab3]; exact .inr rfl
        · rw [if_neg t2]; exact .inl rfl
    · rw [List.getElem_drop, List.getElem_drop]
      exact old (m + i) _ _ (by omega)
  have hlt := h.lt
  rw [hmm] at hlt
  obtain ⟨a', e1, e2, e3⟩ := whole_cut (ring3 D.safe l.base l.size) 0 1
  rw [hm] at e2 e3
  have ha : a' ≤ l.epoch := by
    rcases e1 with rfl | ⟨x, hx, rfl⟩
    · exact Nat.zero_le _
    · exact h.le x hx
  have hgood : ∀ b ∈ bs, b.size ≠ 0 ∧ (allS b).isSome = true := fun b hb => by
    obtain ⟨i, hi, rfl⟩ := List.getElem_of_mem hb
    rw [bat i (by omega)]
    have := bodies ok (m + i) (by omega)
    exact ⟨this.2.1, this.2.2.1⟩
  obtain ⟨r, r1, r2, r3⟩ := mix_whole (1 + m) a' bs _ _ hmix ha hlt e2 hgood
  refine ⟨r, by omega, fun hfull => by rw [r2 hfull, hbs], ?_, fun x hx => ?_, fun x hx => ?_⟩
  · rw [e3 _ htake, r3, h.whole, hmm]
    show (l.secs.take m).map bodyS ++ (((l.secs.drop m).take j).map bodyS).take r = _
    rw [← List.map_take, List.take_take, Nat.min_eq_left (by omega), ← List.map_append, ← List.take_add]
  · rw [← List.take_append_drop m (ring3 s' l.base l.size)] at hx
    rcases List.mem_append.1 hx with hx | hx
    · rw [htake] at hx
      exact h.le x (List.mem_of_mem_take hx)
    · exact mix_le _ _ _ _ hmix hlt x hx
  · have := mix_lt _ _ _ _ hmix hlt x
    rw [List.drop_drop, hbs] at this
    exact this hx
end Stands

/-- What a flush comes to, of a disk with power. -/
theorem flush_shape {D : Dk} {l : Wl} (h : Stands D l) (ok : l.Ok) :
    ((l.flush D).2.2 = 0 ∧ (l.flush D).2.1 = { l with first := l.end_ } ∧ (l.flush D).1.waits = [] ∧ (l.flush D).1.gone = false ∧ (l.flush D).1.safe = settleTo (fun _ => 1) (l.pairs l.first (l.end_ - l.first)) D.safe (l.end_ - l.first) ∧ (D.fuse = none → (l.flush D).1.fuse = none)) ∨
    ((l.flush D).2.2 ≠ 0 ∧ (l.flush D).2.1 = l ∧ D.fuse ≠ none ∧ ∃ j, l.first + j ≤ l.end_ ∧ (l.flush D).1.safe = D.safe ∧ (l.flush D).1.waits = l.pairs l.first j) := by
  obtain ⟨f1, f2, f3⟩ := h.first1 ok
  have hfe := ok.fe
  unfold Wl.flush
  by_cases he : l.end_ = l.first
  · rw [if_pos he]
    refine .inl ⟨rfl, by rw [he], h.waits, h.gone, ?_, id⟩
    rw [he, Nat.sub_self]
    rfl
  · rw [if_neg he]
    have hq : ∀ q, l.first ≤ q → q < l.first + (l.end_ - l.first) → l.place q < D.safe.length ∧ (l.sector q).size = 128 := fun q q1 q2 => by
      refine ⟨?_, ?_⟩
      · have := h.room
        have := Nat.mod_lt q (show 0 < l.size by have := ok.s8; omega)
        unfold Wl.place
        omega
      · have hi : q - 1 < l.secs.length := by omega
        have := h.sector_at (q - 1) hi
        rw [show 1 + (q - 1) = q by omega] at this
        rw [this]
        exact packed_size (Stands.bodies ok _ hi).1
    obtain ⟨j, j1, j2, j3, j4, j5⟩ := writes_is l (l.end_ - l.first) D l.first h.gone hq
    rw [h.waits, List.nil_append] at j3
    generalize l.writes D l.first (l.end_ - l.first) = x at *
    by_cases hx : x.2 ≠ 0
    · rw [if_pos hx]
      exact .inr ⟨hx, rfl, fun hn => hx (j5 hn).2, j, by omega, j2, j3⟩
    · rw [if_neg hx]
      have hx0 : x.2 = 0 := Decidable.not_not.1 hx
      obtain ⟨rfl, hg⟩ := j4 hx0
      by_cases hb : x.1.bears = true
      · have e0 : x.1.syncE = 0 := by unfold Dk.syncE; rw [if_pos hb]
        rw [if_neg (by rw [e0]; simp)]
        have e1 : x.1.sync = { x.1.burn with safe := x.1.settled fun _ => 1, waits := [] } := by unfold Dk.sync; rw [if_pos hb]
        refine .inl ⟨rfl, rfl, by rw [e1], ?_, ?_, fun hn => ?_⟩
        · rw [e1]; show x.1.burn.gone = false; unfold Dk.burn; rw [if_pos hb]; exact hg
        · rw [e1]
          show x.1.settled (fun _ => 1) = _
          unfold Dk.settled
          rw [j2, j3]
          congr 1
          simp [Wl.pairs]
        · rw [e1]
          show x.1.burn.fuse = none
          unfold Dk.burn
          rw [if_pos hb, (j5 hn).1]
          rfl
      · have e0 : x.1.syncE = 4 := by unfold Dk.syncE; rw [if_neg hb]
        have e1 : x.1.sync = x.1.burn := by unfold Dk.sync; rw [if_neg hb]
        rw [if_pos (by rw [e0]; simp)]
        refine .inr ⟨by rw [e0]; simp, rfl, fun hn => hb ?_, l.end_ - l.first, by omega, by rw [e1, Dk.burn_safe]; exact j2, by rw [e1, Dk.burn_waits]; exact j3⟩
        unfold Dk.bears
        rw [hg, (j5 hn).1]
        rfl
namespace Stands
variable {D : Dk} {l : Wl}
/-- Behind a flush that was borne. -/
theorem flushed (h : Stands D l) (ok : l.Ok) (hE : l.epoch < 4294967296) (h0 : (l.flush D).2.2 = 0) : (l.flush D).2.1 = { l with first := l.end_ } ∧ Stands (l.flush D).1 { l with first := l.end_ } ∧ (D.fuse = none → (l.flush D).1.fuse = none) ∧ (l.flush D).1.safe.length = D.safe.length := by
  obtain ⟨f1, f2, f3⟩ := h.first1 ok
  have hfe := ok.fe
  rcases flush_shape h ok with ⟨_, h2, h3, h4, h5, h6⟩ | ⟨h1, _⟩
  · obtain ⟨r, r1, r2, r3, r4, r5⟩ := h.written ok hE (l.end_ - l.first) (by omega) (fun _ => 1) True fun _ _ _ => rfl
    have hr := r2 trivial
    subst hr
    refine ⟨h2, ⟨h.low, ?_, h3, h4, ?_, ?_, ?_⟩, h6, by rw [h5, settleTo_len]⟩
    · rw [h5, settleTo_len]; exact h.room
    · rw [h5]
      show _ = (l.secs.take (l.end_ - 1)).map bodyS
      rw [r3, show l.first - 1 + (l.end_ - l.first) = l.end_ - 1 by omega]
    · rw [h5]; exact r4
    · rw [h5]
      show ∀ x ∈ (ring3 _ l.base l.size).drop (l.end_ - 1), _
      rw [show l.end_ - 1 = l.first - 1 + (l.end_ - l.first) by omega]
      exact r5
  · exact absurd h0 h1
theorem flush_ok (h : Stands D l) (ok : l.Ok) (hn : D.fuse = none) : (l.flush D).2.2 = 0 := by
  rcases flush_shape h ok with ⟨h1, _⟩ | ⟨_, _, h3, _⟩
  · exact h1
  · exact absurd hn h3
theorem secs_of {s t : List (List Rc)} (h : s.map bodyS = t.map bodyS) (hs : ∀ rs ∈ s, ∀ r ∈ rs, May r) (ht : ∀ rs ∈ t, ∀ r ∈ rs, May r) : s = t := by
  have h2 := congrArg (List.map recsOf) h
  rw [List.map_map, List.map_map] at h2
  have e : ∀ u : List (List Rc), (∀ rs ∈ u, ∀ r ∈ rs, May r) → u.map (recsOf ∘ bodyS) = u := fun u hu => by
    conv => rhs; rw [← List.map_id u]
    exact List.map_congr_left fun rs hrs => recsOf_body (hu rs hrs)
  rwa [e s hs, e t ht] at h2
/-- Behind a flush, and a crash: what is opened. -/
theorem crashed (h : Stands D l) (ok : l.Ok) (hE : l.epoch < 4294967296) (p : List UInt8) (hD : D.safe.length ≤ 512) :
    ∃ m, l.first - 1 ≤ m ∧ m ≤ l.secs.length ∧ (Wl.opened ((l.flush D).1.crash p) l.base l.size 1).secs = l.secs.take m ∧ ((l.flush D).2.2 = 0 → m = l.secs.length) ∧
      Stands ((l.flush D).1.crash p) (Wl.opened ((l.flush D).1.crash p) l.base l.size 1) ∧ (Wl.opened ((l.flush D).1.crash p) l.base l.size 1).epoch ≤ l.epoch + 1 ∧ ((l.flush D).1.crash p).safe.length = D.safe.length := by
  obtain ⟨f1, f2, f3⟩ := h.first1 ok
  have hfe := ok.fe
  have key : ∃ j ft, l.first + j ≤ l.end_ ∧ ((l.flush D).1.crash p).safe = settleTo ft (l.pairs l.first j) D.safe j ∧ ((l.flush D).2.2 = 0 → (∀ t, t < j → ft t = 1) ∧ l.first + j = l.end_) := by
    rcases flush_shape h ok with ⟨_, h2, h3, h4, h5, h6⟩ | ⟨h1, h2, h3, j, j1, j2, j3⟩
    · refine ⟨l.end_ - l.first, fun _ => 1, by omega, ?_, fun _ => ⟨fun _ _ => rfl, by omega⟩⟩
      show (l.flush D).1.settled _ = _
      unfold Dk.settled
      rw [h3, ← h5]
      rfl
    · refine ⟨j, fate p, j1, ?_, fun h0 => absurd h0 h1⟩
      show (l.flush D).1.settled _ = _
      unfold Dk.settled
      rw [j2, j3]
      congr 1
      simp [Wl.pairs]
  obtain ⟨j, ft, k1, k2, k3⟩ := key
  have hlen : ((l.flush D).1.crash p).safe.length = D.safe.length := by rw [k2, settleTo_len]
  have hroom : l.base + l.size ≤ ((l.flush D).1.crash p).safe.length := by rw [hlen]; exact h.room
  have hst : Stands ((l.flush D).1.crash p) (Wl.opened ((l.flush D).1.crash p) l.base l.size 1) := Stands.opened hroom rfl rfl
  obtain ⟨r, r1, r2, r3, r4, r5⟩ := h.written ok hE j k1 ft ((l.flush D).2.2 = 0) fun h0 => (k3 h0).1
  rw [← k2] at r3 r4 r5
  have hbod := Wl.opened_bodies ((l.flush D).1.crash p) l.base l.size 1
  rw [ringOf_3 (show ((l.flush D).1.crash p).waits = [] from rfl), r3] at hbod
  have hokO : (Wl.opened ((l.flush D).1.crash p) l.base l.size 1).Ok := Wl.Ok.opened ok.s8 ok.s64 (by have := h.room; omega) (Nat.le_refl _) (by decide)
  refine ⟨l.first - 1 + r, by omega, by omega, ?_, fun h0 => ?_, hst, ?_, hlen⟩
  · exact secs_of hbod (fun rs hrs => (hokO.sec rs hrs).2.1) fun rs hrs => (ok.sec rs (List.mem_of_mem_take hrs)).2.1
  · have := r2 h0
    have := (k3 h0).2
    omega
  · show epochOf _ ≤ _
    rw [ringOf_3 (show ((l.flush D).1.crash p).waits = [] from rfl)]
    have hle : ∀ (L : List Slab3) (E : Nat), 1 ≤ E + 1 → (∀ x ∈ L, x.1 ≤ E) → epochOf L ≤ E + 1 := fun L E => by
      refine snoc_ind (p := fun L => 1 ≤ E + 1 → (∀ x ∈ L, x.1 ≤ E) → epochOf L ≤ E + 1) (fun h _ => h) (fun L x ih h hx => ?_) L
      rw [epochOf_snoc]
      have := ih h fun y hy => hx y (by simp [hy])
      have := hx x (by simp)
      omega
    exact hle _ _ (by omega) r4
end Stands
end Go.Proofs.YtpiaknmjepjglaaGreat

/- Package wal: the records of a sector. -/
namespace Go.Proofs.YtpiaknmjepjglaaGreat
open Go.RowKit

def Qe.moved (x : Qe) (a : Int) : Qe := ⟨a, x.r, x.vt, x.vp⟩
def Qe.shift (d : Int) (x : Qe) : Qe := x.moved (x.at_ + d)
theorem entsV_set : ∀ (q : List Qe) (j : Nat) (h : j < q.length) (a : Int), (entsV q).set (j * 12) (.int .i64 a) = entsV (q.set j (q[j].moved a))
  | [], j, h, _ => by simp at h
  | x :: q, 0, _, a => rfl
  | x :: q, j + 1, h, a => by
    show (x.cells ++ entsV q).set ((j + 1) * 12) _ = x.cells ++ entsV (q.set j ((q[j]'(by simpa using h)).moved a))
    rw [← entsV_set q j (by simpa using h) a, List.set_append_right _ _ (by rw [Qe.cells_len]; omega), Qe.cells_len, show (j + 1) * 12 - 12 = j * 12 by omega]
/-- The first j are moved. -/
def Qe.part (d : Int) (q : List Qe) (j : Nat) : List Qe := (q.take j).map (Qe.shift d) ++ q.drop j
theorem part_len (d : Int) (q : List Qe) (j : Nat) (h : j ≤ q.length) : (Qe.part d q j).length = q.length := by unfold Qe.part; simp; omega
theorem part_zero (d : Int) (q : List Qe) : Qe.part d q 0 = q := rfl
theorem part_all (d : Int) (q : List Qe) : Qe.part d q q.length = q.map (Qe.shift d) := by unfold Qe.part; simp
theorem part_split (d : Int) (q : List Qe) (j : Nat) (h : j < q.length) : Qe.part d q j = (q.take j).map (Qe.shift d) ++ (q[j] :: q.drop (j + 1)) := by unfold Qe.part; rw [List.drop_eq_getElem_cons h]
theorem part_next (d : Int) (q : List Qe) (j : Nat) (h : j < q.length) : (Qe.part d q j).set j (Qe.shift d q[j]) = Qe.part d q (j + 1) := by
  have hl : ((q.take j).map (Qe.shift d)).length = j := by simp; omega
  rw [part_split d q j h, List.set_append_right _ _ (by omega), hl, Nat.sub_self, List.set_cons_zero]
  unfold Qe.part
  rw [List.take_succ_eq_append_getElem h, List.map_append, List.append_assoc]
  rfl
theorem part_at (d : Int) (q : List Qe) (j : Nat) (h : j < q.length) (h' : j < (Qe.part d q j).length) : (Qe.part d q j)[j] = q[j] := by
  have hl : ((q.take j).map (Qe.shift d)).length = j := by simp; omega
  have : (Qe.part d q j)[j]? = some q[j] := by
    rw [part_split d q j h, List.getElem?_append_right (by omega), hl, Nat.sub_self]
    rfl
  rw [List.getElem?_eq_getElem h'] at this
  exact Option.some.inj this
theorem shift_ents (d : Int) (q : List Qe) : (q.map (Qe.shift d)).map Qe.ent = (q.map Qe.ent).map fun x => (x.1 + d, x.2) := by
  rw [List.map_map, List.map_map]
  rfl
theorem body_count : ∀ (rs : List Rc) (_ : ∀ r ∈ rs, May r), rs.length ≤ (body rs).length
  | [], _ => Nat.zero_le _
  | r :: rs, h => by
    have := body_count rs fun q hq => h q (by simp [hq])
    have hp := lay_pos (h r (by simp))
    simp only [body, List.flatMap_cons, List.length_append, List.length_cons] at *
    omega
theorem entsOf_len : ∀ (a : Int) (rs : List Rc), (entsOf a rs).length = rs.length
  | _, [] => rfl
  | a, r :: rs => by show (entsOf _ rs).length + 1 = _; rw [entsOf_len]; rfl
/-- The entries of the sector with this number. -/
def Wl.entries (l : Wl) (k : Int) : List Ent := if l.low ≤ k ∧ k < l.end_ then entsOf (k * 128) (l.secs.getD (k.toNat - l.low) []) else []
theorem FreshQ.base {B B' : Nat} {q : List Qe} (h : FreshQ B q) (hb : B' ≤ B) : FreshQ B' q := fun x hx => ⟨fun hr b hv => Nat.le_trans hb ((h x hx).1 hr b hv), fun hr b hv => Nat.le_trans hb ((h x hx).2 hr b hv)⟩
theorem FreshQ.shift {B : Nat} {q : List Qe} (h : FreshQ B q) (d : Int) : FreshQ B (q.map (Qe.shift d)) := fun x hx => by
  obtain ⟨y, hy, rfl⟩ := List.mem_map.1 hx
  exact h y hy
theorem own_base_to {w : World} {B B' size n : Nat} {e : TypeId} {v : Value} {xs : List Value} (h : w.ownsRow B e size v n xs) (hb : B' ≤ B) : w.ownsRow B' e size v n xs := by
  obtain ⟨hl, h | ⟨g, cap, cur, rfl, h1, h2⟩⟩ := h
  · exact ⟨hl, .inl h⟩
  · exact ⟨hl, .inr ⟨g, cap, cur, rfl, Nat.le_trans hb h1, h2⟩⟩
section
variable {w : World} {F : Foot} {g gd : Nat} {l : Wl}
end
end Go.Proofs.YtpiaknmjepjglaaGreat

/- Package wal: Scan. -/
namespace Go.Proofs.YtpiaknmjepjglaaGreat
open Go.RowKit

namespace Wl
/-- What a scan still brings from the sector k on. -/
def rest (l : Wl) (from_ : Int) (k : Nat) : List Ent := (allFrom k (l.secs.drop (k - l.low))).filter fun x => decide (from_ ≤ x.1)
theorem rest_end (l : Wl) (f : Int) (k : Nat) (h : l.end_ ≤ k) : l.rest f k = [] := by
  unfold rest
  rw [List.drop_of_length_le (by unfold end_ at h; omega)]
  rfl
theorem rest_step (l : Wl) (f : Int) (k : Nat) (h1 : l.low ≤ k) (h2 : k < l.end_) : l.rest f k = (l.entries k).filter (fun x => decide (f ≤ x.1)) ++ l.rest f (k + 1) := by
  have hlt : k - l.low < l.secs.length := by unfold end_ at h2; omega
  unfold rest
  rw [List.drop_eq_getElem_cons hlt, show k + 1 - l.low = k - l.low + 1 by omega]
  simp only [allFrom, List.filter_append]
  congr 2
  unfold entries
  rw [if_pos ⟨by omega, by omega⟩, Int.toNat_natCast, List.getD_eq_getElem?_getD, List.getElem?_eq_getElem hlt, Int.natCast_mul]
  rfl
theorem rest_low (l : Wl) (f : Int) : l.rest f l.low = l.scan f := by
  unfold rest scan all
  rw [Nat.sub_self]
  rfl
theorem entries_lt {l : Wl} (h : l.Ok) (k : Nat) : ∀ x ∈ l.entries k, x.1 < (k : Int) * 128 + 128 := fun x hx => by
  unfold entries at hx
  split at hx
  · rename_i hc
    have hlt : k - l.low < l.secs.length := by have := hc.2; unfold end_ at this; omega
    have hmem : l.secs.getD ((k : Int).toNat - l.low) [] ∈ l.secs := by
      rw [Int.toNat_natCast, List.getD_eq_getElem?_getD, List.getElem?_eq_getElem hlt]
      exact List.getElem_mem hlt
    obtain ⟨_, hm, h112⟩ := h.sec _ hmem
    have h112' : ((l.secs.getD ((k : Int).toNat - l.low) []).flatMap lay).length ≤ 112 := h112
    have := entsOf_ge _ _ hm x hx
    omega
  · simp at hx
/-- Sectors that end ahead of a place bring nothing. -/
theorem rest_skip {l : Wl} (h : l.Ok) (f : Int) (s : Nat) (hs : (s : Int) * 128 ≤ f ∨ s ≤ l.low) : ∀ (d k : Nat), s - k = d → l.low ≤ k → k ≤ s → l.rest f k = l.rest f s := by
  intro d
  induction d with
  | zero => intro k hd h1 h2; rw [show k = s by omega]
  | succ d ih =>
    intro k hd h1 h2
    rw [← ih (k + 1) (by omega) (by omega) (by omega)]
    by_cases hk : k < l.end_
    · rw [rest_step l f k h1 hk]
      have : (l.entries k).filter (fun x => decide (f ≤ x.1)) = [] := by
        rw [List.filter_eq_nil_iff]
        intro x hx
        have := entries_lt h k x hx
        simp
        omega
      rw [this, List.nil_append]
    · rw [rest_end l f k (by omega), rest_end l f (k + 1) (by omega)]
end Wl
theorem FreshQ.apart {B' : Nat} {v : Value} {qe : List Qe} (h : FreshQ B' qe) (hv : ∀ b, v.ownBlock = some b → b < B') : ∀ x ∈ qe, Apart v x := fun x hx b hb =>
  ⟨fun hr e => by have := (h x hx).1 hr b e; have := hv b hb; omega, fun hr e => by have := (h x hx).2 hr b e; have := hv b hb; omega⟩
section
variable {w : World} {F : Foot} {g gd : Nat} {l : Wl}
theorem entries_count {l : Wl} (h : l.Ok) (k : Int) : (l.entries k).length ≤ 112 := by
  unfold Wl.entries
  split
  · rename_i hc
    have hlt : k.toNat - l.low < l.secs.length := by have := hc.2; unfold Wl.end_ at this; omega
    have hmem : l.secs.getD (k.toNat - l.low) [] ∈ l.secs := by
      rw [List.getD_eq_getElem?_getD, List.getElem?_eq_getElem hlt]
      exact List.getElem_mem hlt
    obtain ⟨_, hm, h112⟩ := h.sec _ hmem
    rw [entsOf_len]
    exact Nat.le_trans (body_count _ hm) h112
  · exact Nat.zero_le _
theorem tdiv_pos (x : Int) (h : 0 ≤ x) : x.tdiv 128 = x / 128 := Int.tdiv_eq_ediv_of_nonneg h
theorem tdiv_neg (x : Int) (h : x < 0) : x.tdiv 128 = -((-x) / 128) := by
  have := tdiv_pos (-x) (by omega)
  rw [Int.neg_tdiv] at this
  omega
end
end Go.Proofs.YtpiaknmjepjglaaGreat

/- Package wal: Read. -/
namespace Go.Proofs.YtpiaknmjepjglaaGreat
open Go.RowKit

/-- What stands at a place. -/
def Wl.readAt (l : Wl) (at_ : Int) : Rc × Int := match (l.entries (at_.tdiv 128)).find? (fun x => x.1 == at_) with | some x => (x.2, 0) | none => (.nil, 7)
def ReadOut (w : World) (x : Rc × Int) (e : Ending) (w' : World) : Prop := ∃ v, e = .returned (.tuple #[v, .int .i64 x.2]) ∧ IsRec w' v x.1 ∧ Below w.heap.size w w'
section
variable {w : World} {F : Foot} {g gd : Nat} {l : Wl}
end
end Go.Proofs.YtpiaknmjepjglaaGreat

/- Package wal: any Append; a disk and a log that were made since a world. -/
namespace Go.Proofs.YtpiaknmjepjglaaGreat
open Go.RowKit

/-- What an Append comes to: the record's place, its error, the log behind it. -/
noncomputable def Wl.app (l : Wl) (r : Rc) : Nat × Nat × Wl := open Classical in if May r then (l.putAt r, l.putE r, l.put r) else (0, 1, l)
theorem Wl.app_may {l : Wl} {r : Rc} (h : May r) : l.app r = (l.putAt r, l.putE r, l.put r) := by unfold Wl.app; rw [if_pos h]
theorem Wl.app_not {l : Wl} {r : Rc} (h : ¬ May r) : l.app r = (0, 1, l) := by unfold Wl.app; rw [if_neg h]
theorem append_may {w : World} {F : Foot} {g gd : Nat} {l : Wl} {v : Value} {r : Rc} (h : IsLog w F g gd l) (hv : IsRec w v r) (hm : May r) :
    Calls Tryz.prog 23 #[.pointer (some ⟨g, 0, none⟩), v] w (AppOut w F g gd (l.putAt r) (l.putE r) (l.put r)) := by
  unfold Wl.putE
  by_cases hj : l.joins r
  · rw [if_pos hj]; exact append_join h hv hm hj
  · rw [if_neg hj]
    by_cases hr : l.secs.length < l.size
    · rw [if_pos hr]
      by_cases hne : l.end_ = l.first
      · exact append_new1 h hv hm hj hne hr
      · exact append_new2 h hv hm hj hne hr
    · rw [if_neg hr]
      by_cases hne : l.end_ = l.first
      · exact append_full1 h hv hm hj hne hr
      · exact append_full2 h hv hm hj hne hr
theorem append_any {w : World} {F : Foot} {g gd : Nat} {l : Wl} {v : Value} {r : Rc} (h : IsLog w F g gd l) (hv : IsRec w v r) (hf : Fit r) :
    Calls Tryz.prog 23 #[.pointer (some ⟨g, 0, none⟩), v] w (AppOut w F g gd (l.app r).1 (l.app r).2.1 (l.app r).2.2) := by
  by_cases hm : May r
  · rw [Wl.app_may hm]; exact append_may h hv hm
  · rw [Wl.app_not hm]; exact append_bad h hv hf hm

/-- A disk and a log that were made since w0. -/
structure LiveL (w0 w : World) (FD FL : Foot) (g gd : Nat) (D : Dk) (l : Wl) : Prop where
  sys : Sys w FD FL g gd D l
  newD : ∀ b, FD b → w0.heap.size ≤ b
  newL : ∀ b, FL b → w0.heap.size ≤ b
  below : Below w0.heap.size w0 w
namespace LiveL
variable {w0 w w' : World} {FD FL FD' FL' : Foot} {g gd : Nat} {D D' : Dk} {l l' : Wl}
theorem new (h : LiveL w0 w FD FL g gd D l) : ∀ b, Both FD FL b → w0.heap.size ≤ b := fun b hb => hb.elim (h.newD b) (h.newL b)
theorem more (h : LiveL w0 w FD FL g gd D l) (hb : Below w.heap.size w w') : LiveL w0 w' FD FL g gd D l := ⟨h.sys.more hb, h.newD, h.newL, h.below.trans (hb.mono h.below.size)⟩
theorem step (h : LiveL w0 w FD FL g gd D l) (hs : Sys w' FD' FL' g gd D' l') (st : Step (Both FD FL) (Both FD' FL') w w') : LiveL w0 w' FD' FL' g gd D' l' :=
  ⟨hs, fun b hb => st.from_ h.new h.below.size b (.inl hb), fun b hb => st.from_ h.new h.below.size b (.inr hb), st.belowB h.new h.below h.below.size⟩
theorem only (h : LiveL w0 w FD FL g gd D l) {S : Nat → Prop} (hb : Only S w w') (hS : ∀ b, Both FD FL b → ¬ S b) (hn : ∀ b, S b → w0.heap.size ≤ b) : LiveL w0 w' FD FL g gd D l :=
  ⟨⟨h.sys.disk.keep (fun b hF => hb.block b (h.sys.disk.lt b hF) (hS b (.inl hF))) hb.size, h.sys.log.only hb fun b hF => hS b (.inr hF), h.sys.apart⟩, h.newD, h.newL, hb.below h.below h.below.size hn⟩
theorem append {v : Value} {r : Rc} (h : LiveL w0 w FD FL g gd D l) (hv : IsRec w v r) (hf : Fit r) :
    Calls Tryz.prog 23 #[.pointer (some ⟨g, 0, none⟩), v] w fun e w' => e = .returned (.tuple #[.int .i64 (l.app r).1, .int .i64 (l.app r).2.1]) ∧ ∃ FL', LiveL w0 w' FD FL' g gd D (l.app r).2.2 ∧ Step (Both FD FL) (Both FD FL') w w' :=
  (append_any h.sys.log hv hf).mono fun _ _ ⟨he, F', hl, hs⟩ => ⟨he, F', h.step (h.sys.onLog hl hs).1 (h.sys.onLog hl hs).2, (h.sys.onLog hl hs).2⟩
theorem flush (h : LiveL w0 w FD FL g gd D l) (hep : l.epoch < 4294967296) (hw : D.waits.length ≤ 1000000) :
    Calls Tryz.prog 107 #[.pointer (some ⟨g, 0, none⟩)] w fun e w' => e = .returned (.int .i64 (l.flush D).2.2) ∧ ∃ FD', LiveL w0 w' FD' FL g gd (l.flush D).1 (l.flush D).2.1 ∧ Step (Both FD FL) (Both FD' FL) w w' :=
  (flush_any h.sys hep hw).mono fun _ _ ⟨he, FD', hs, st⟩ => ⟨he, FD', h.step hs st, st⟩
theorem arm (h : LiveL w0 w FD FL g gd D l) (k : Int) (hk : k < 9223372036854775808) :
    Calls Tryz.prog 26 #[.pointer (some ⟨gd, 0, none⟩), .int .i64 k] w fun e w' => e = .returned (.tuple #[]) ∧ LiveL w0 w' FD FL g gd (D.arm k) l ∧ Step (Both FD FL) (Both FD FL) w w' :=
  (arm_any h.sys.disk k hk).mono fun _ _ ⟨he, hd, st⟩ => ⟨he, h.step (h.sys.onDisk hd st).1 (h.sys.onDisk hd st).2, (h.sys.onDisk hd st).2⟩
theorem make {gd : Nat} (h : IsDisk w FD gd D) (hn : ∀ b, FD b → w0.heap.size ≤ b) (hb0 : Below w0.heap.size w0 w) (base n : Nat) (h8 : 8 ≤ n) (h64 : n ≤ 64) (hb : base + n ≤ D.safe.length) :
    Calls Tryz.prog 44 #[.pointer (some ⟨gd, 0, none⟩), .int .i64 base, .int .i64 n] w fun e w' => ∃ g F, e = .returned (.tuple #[.pointer (some ⟨g, 0, none⟩), .int .i64 0]) ∧ LiveL w0 w' FD F g gd D (Wl.new base n) :=
  (logNew_ok h base n h8 h64 hb).mono fun _ _ ⟨g, he, hl, hg, hbel⟩ => ⟨g, _, he, ⟨h.below hbel, hl, fun b hb e => by subst e; have := h.lt b hb; omega⟩, hn, fun b e => by subst e; exact Nat.le_trans hb0.size hg, hb0.trans (hbel.mono hb0.size)⟩
theorem appendAs {v : Value} {r : Rc} (h : LiveL w0 w FD FL g gd D l) (hv : IsRec w v r) (hf : Fit r) {a er : Nat} {l' : Wl} (ha : l.app r = (a, er, l')) (x y : Int) (hx : (a : Int) = x) (hy : (er : Int) = y) :
    Calls Tryz.prog 23 #[.pointer (some ⟨g, 0, none⟩), v] w fun e w' => e = .returned (.tuple #[.int .i64 x, .int .i64 y]) ∧ ∃ FL', LiveL w0 w' FD FL' g gd D l' ∧ Step (Both FD FL) (Both FD FL') w w' := by
  have := h.append hv hf
  rw [ha] at this
  subst hx hy
  exact this
theorem flushAs (h : LiveL w0 w FD FL g gd D l) (hep : l.epoch < 4294967296) (hw : D.waits.length ≤ 1000000) {D' : Dk} {l' : Wl} (hD : (l.flush D).1 = D') (hl : (l.flush D).2.1 = l') (y : Int) (hy : ((l.flush D).2.2 : Int) = y) :
    Calls Tryz.prog 107 #[.pointer (some ⟨g, 0, none⟩)] w fun e w' => e = .returned (.int .i64 y) ∧ ∃ FD', LiveL w0 w' FD' FL g gd D' l' ∧ Step (Both FD FL) (Both FD' FL) w w' := by
  subst hD hl hy
  exact h.flush hep hw
end LiveL
end Go.Proofs.YtpiaknmjepjglaaGreat

/- A log and its disk between calls; what an Append adds; plain mathematics. -/
namespace Go.Proofs.YtpiaknmjepjglaaGreat
open Go.RowKit

/-- A log at the sectors from 0 on of a disk with n sectors, with power, and no fuse. -/
structure Calm (D : Dk) (l : Wl) (n E : Nat) : Prop where
  ok : l.Ok
  stands : Stands D l
  fuse : D.fuse = none
  ep : l.epoch ≤ E
  base : l.base = 0
  size : l.size = n
  len : D.safe.length = n
namespace Calm
variable {D : Dk} {l : Wl} {n E : Nat}
theorem new (h8 : 8 ≤ n) (h64 : n ≤ 64) : Calm (Dk.new n) (Wl.new 0 n) n 1 :=
  ⟨Wl.Ok.new h8 h64 (by omega), Stands.new (by omega), rfl, Nat.le_refl _, rfl, rfl, by simp [Dk.new]⟩
theorem put (h : Calm D l n E) {r : Rc} (hm : May r) : Calm D (l.put r) n E := by
  have hs : (l.put r).base = l.base ∧ (l.put r).size = l.size ∧ (l.put r).epoch = l.epoch := by
    unfold Wl.put; split
    · exact ⟨rfl, rfl, rfl⟩
    · split <;> exact ⟨rfl, rfl, rfl⟩
  exact ⟨h.ok.put hm (lay_short hm), h.stands.put h.ok r, h.fuse, by rw [hs.2.2]; exact h.ep, by rw [hs.1]; exact h.base, by rw [hs.2.1]; exact h.size, h.len⟩
theorem app (h : Calm D l n E) (r : Rc) : Calm D (l.app r).2.2 n E := by
  by_cases hm : May r
  · rw [Wl.app_may hm]; exact h.put hm
  · rw [Wl.app_not hm]; exact h
theorem hep (h : Calm D l n E) (hE : E < 4294967296) : l.epoch < 4294967296 := Nat.lt_of_le_of_lt h.ep hE
theorem hw (h : Calm D l n E) : D.waits.length ≤ 1000000 := by rw [h.stands.waits]; exact Nat.zero_le _
theorem err (h : Calm D l n E) : (l.flush D).2.2 = 0 := h.stands.flush_ok h.ok h.fuse
theorem log (h : Calm D l n E) (hE : E < 4294967296) : (l.flush D).2.1 = { l with first := l.end_ } := (h.stands.flushed h.ok (h.hep hE) h.err).1
theorem flush (h : Calm D l n E) (hE : E < 4294967296) : Calm (l.flush D).1 (l.flush D).2.1 n E := by
  obtain ⟨h1, h2, h3, h4⟩ := h.stands.flushed h.ok (h.hep hE) h.err
  rw [h1]
  exact ⟨h.ok.flushed, h2, h3 h.fuse, h.ep, h.base, h.size, by rw [h4]; exact h.len⟩
end Calm
/-- A record that was taken. -/
theorem Wl.app_zero {l : Wl} {r : Rc} (h : (l.app r).2.1 = 0) : May r ∧ l.putE r = 0 ∧ (l.app r).1 = l.putAt r ∧ (l.app r).2.2 = l.put r := by
  by_cases hm : May r
  · rw [Wl.app_may hm] at h ⊢; exact ⟨hm, h, rfl, rfl⟩
  · rw [Wl.app_not hm] at h; cases h
/-- One that wasn't. -/
theorem Wl.app_same {l : Wl} {r : Rc} (h : (l.app r).2.1 ≠ 0) : (l.app r).2.2 = l := by
  by_cases hm : May r
  · rw [Wl.app_may hm] at h ⊢
    have h : l.putE r ≠ 0 := h
    show l.put r = l
    unfold Wl.putE at h
    unfold Wl.put
    split
    · rename_i hj; rw [if_pos hj] at h; exact absurd rfl h
    · rename_i hj
      rw [if_neg hj] at h
      split
      · rename_i hr; rw [if_pos hr] at h; exact absurd rfl h
      · rfl
  · rw [Wl.app_not hm]
/-- Where a record goes: in which sector, behind which ones. -/
theorem Wl.put_where {l : Wl} (ok : l.Ok) {r : Rc} (h : l.putE r = 0) : ∃ (s : Nat) (rs : List Rc), l.putAt r = s * 128 + (body rs).length ∧ (body rs).length ≤ 112 ∧ (∀ q ∈ rs, May q) ∧ l.low ≤ s ∧ l.first ≤ s ∧ s + 1 = (l.put r).end_ ∧
    (l.put r).low = l.low ∧ (l.put r).first = l.first ∧ (l.put r).secs.getD (s - l.low) [] = rs ++ [r] ∧ l.all = Wl.allFrom l.low (l.secs.take (s - l.low)) ++ entsOf ((s * 128 : Nat) : Int) rs ∧ s - l.low ≤ l.secs.length := by
  unfold Wl.putE at h
  unfold Wl.putAt Wl.put
  have hfl := ok.fl
  have hfe := ok.fe
  by_cases hj : l.joins r
  · rw [if_pos hj, if_pos hj]
    have hlt : 0 < l.secs.length := by have := hj.1; unfold Wl.end_ at *; omega
    obtain ⟨i, x, e⟩ := Wl.snoc_of hlt
    have hx := ok.sec x (by rw [e]; simp)
    have hf := hj.1
    unfold Wl.end_ at hf
    have hlen : l.secs.length = i.length + 1 := by rw [e]; simp
    refine ⟨l.low + i.length, x, ?_, hx.2.2, hx.2.1, by omega, by omega, ?_, rfl, rfl, ?_, ?_, ?_⟩
    · unfold Wl.end_; rw [hlen, e, Wl.lastD_snoc]; rfl
    · unfold Wl.end_; simp only [e, List.dropLast_concat, Wl.lastD_snoc, List.length_append, List.length_singleton]; omega
    · rw [Nat.add_sub_cancel_left]; simp only [e, List.dropLast_concat, Wl.lastD_snoc]; simp [List.getD_eq_getElem?_getD]
    · unfold Wl.all
      rw [Nat.add_sub_cancel_left, e, List.take_left, Wl.allFrom_app]
      simp [Wl.allFrom]
    · omega
  · rw [if_neg hj] at h ⊢
    rw [if_neg hj]
    by_cases hr : l.secs.length < l.size
    · rw [if_pos hr, if_pos hr]
      unfold Wl.end_ at hfe
      refine ⟨l.low + l.secs.length, [], ?_, by simp [body], fun q hq => by simp at hq, by omega, by omega, ?_, rfl, rfl, ?_, ?_, by omega⟩
      · unfold Wl.end_; simp [body]
      · unfold Wl.end_; simp; omega
      · rw [Nat.add_sub_cancel_left]; simp [List.getD_eq_getElem?_getD]
      · unfold Wl.all
        rw [Nat.add_sub_cancel_left, List.take_length]
        simp [entsOf]
    · rw [if_neg hr] at h; cases h
theorem Wl.allFrom_lt : ∀ (k : Nat) (s : List (List Rc)), (∀ rs ∈ s, (∀ r ∈ rs, May r) ∧ (body rs).length ≤ 112) → ∀ x ∈ Wl.allFrom k s, x.1 < (((k + s.length) * 128 : Nat) : Int)
  | _, [], _, x, h => by simp [Wl.allFrom] at h
  | k, rs :: s, hs, x, h => by
    rcases List.mem_append.1 h with h | h
    · have := entsOf_ge _ rs (hs rs (by simp)).1 x h
      have h2 := (hs rs (by simp)).2
      unfold body at h2
      simp only [List.length_cons]
      omega
    · have := Wl.allFrom_lt (k + 1) s (fun q hq => hs q (by simp [hq])) x h
      simp only [List.length_cons]
      omega
/-- A new record lies behind all others. -/
theorem Wl.put_gt {l : Wl} (ok : l.Ok) {r : Rc} (h : l.putE r = 0) : (∀ x ∈ l.all, x.1 < (l.putAt r : Int)) ∧ 128 ≤ l.putAt r ∧ l.putAt r ≤ 1099511627776 := by
  obtain ⟨s, rs, e1, e2, e3, e4, e5, e6, _, _, _, e7, e8⟩ := Wl.put_where ok h
  have hl := ok.l1
  refine ⟨fun x hx => ?_, by omega, ?_⟩
  · rw [e7] at hx
    rcases List.mem_append.1 hx with hx | hx
    · have := Wl.allFrom_lt l.low (l.secs.take (s - l.low)) (fun q hq => (ok.sec q (List.mem_of_mem_take hq)).2) x hx
      rw [List.length_take] at this
      omega
    · have := entsOf_ge _ rs e3 x hx
      unfold body at e1
      omega
  · have hlm := ok.lm
    have hlen := ok.len
    have h64 := ok.s64
    omega
/-- What was appended is read at its place. -/
theorem Wl.put_read {l : Wl} (ok : l.Ok) {r : Rc} (h : l.putE r = 0) : (l.put r).readAt (l.putAt r : Int) = (r, 0) := by
  obtain ⟨s, rs, e1, e2, e3, e4, e5, e6, f1, f2, f3, e7, e8⟩ := Wl.put_where ok h
  have hdiv : ((l.putAt r : Nat) : Int).tdiv 128 = (s : Int) := by
    rw [Int.tdiv_eq_ediv_of_nonneg (by omega)]
    omega
  have hent : (l.put r).entries (s : Int) = entsOf (((s : Nat) : Int) * 128) rs ++ [((l.putAt r : Int), r)] := by
    unfold Wl.entries
    rw [if_pos (by rw [f1]; omega), f1, Int.toNat_natCast, f3, entsOf_snoc]
    congr 3
    unfold body at e1
    omega
  unfold Wl.readAt
  rw [hdiv, hent, List.find?_append]
  have hn : (entsOf (((s : Nat) : Int) * 128) rs).find? (fun x => x.1 == (l.putAt r : Int)) = none := List.find?_eq_none.2 fun x hx => by
    have := entsOf_ge _ rs e3 x hx
    unfold body at e1
    simp only [beq_iff_eq]
    omega
  rw [hn]
  simp
/-- What a scan from a place on has more. -/
theorem Wl.put_scan {l : Wl} (ok : l.Ok) {r : Rc} (h : l.putE r = 0) (f : Int) : (l.put r).scan f = l.scan f ++ if f ≤ (l.putAt r : Int) then [((l.putAt r : Int), r)] else [] := by
  unfold Wl.scan
  rw [Wl.putAll h ok.fl, List.filter_append]
  congr 1
  by_cases hc : f ≤ (l.putAt r : Int)
  · rw [if_pos hc, List.filter_cons_of_pos (by simpa using hc)]; rfl
  · rw [if_neg hc, List.filter_cons_of_neg (by simpa using hc)]; rfl
end Go.Proofs.YtpiaknmjepjglaaGreat
