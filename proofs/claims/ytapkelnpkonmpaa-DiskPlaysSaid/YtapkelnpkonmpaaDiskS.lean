/- The statement DiskSafe: what it keeps in memory; what a crash leaves. -/
import Derived.Test.YtapkelnpkonmpaaDiskQ
namespace Go.Proofs.Ytapkelnpkonmpaa
open Go.RowKit

/-- What a sector may be behind a crash, besides what was safe. -/
def alt (l : List (Nat × ByteArray)) (i : Nat) : List ByteArray := (l.filter fun x => Nat.beq x.1 i).flatMap fun x => [x.2, zero128]
theorem alt_snoc (l : List (Nat × ByteArray)) (x : Nat × ByteArray) (i : Nat) : alt (l ++ [x]) i = if i = x.1 then alt l i ++ [x.2, zero128] else alt l i := by
  unfold alt
  rw [List.filter_append, List.flatMap_append]
  by_cases h : i = x.1
  · subst h
    rw [if_pos rfl, List.filter_cons_of_pos (by simp)]
    rfl
  · rw [if_neg h, List.filter_cons_of_neg (by simp; omega)]
    simp
theorem alt_len (l : List (Nat × ByteArray)) (i : Nat) : (alt l i).length ≤ 2 * l.length := by
  refine snoc_ind (p := fun l => (alt l i).length ≤ 2 * l.length) (by simp [alt]) (fun l x ih => ?_) l
  rw [alt_snoc]
  split <;> simp <;> omega
theorem settle_alt (f : Nat → Nat) (l : List (Nat × ByteArray)) (s : List ByteArray) (hl : ∀ x ∈ l, x.1 < s.length) (i : Nat) (hi : i < s.length) : ∀ k, k ≤ l.length →
    (settleTo f l s k).getD i zero128 = s.getD i zero128 ∨ (settleTo f l s k).getD i zero128 ∈ alt (l.take k) i
  | 0, _ => .inl rfl
  | k + 1, hk => by
    have ih := settle_alt f l s hl i hi k (by omega)
    rw [settleTo_succ _ _ _ _ (by omega), List.take_succ_eq_append_getElem (by omega), alt_snoc]
    have hx := hl l[k] (List.getElem_mem _)
    have hlen := settleTo_len f l s k
    generalize l[k] = x at *
    generalize settleTo f l s k = t at *
    have set : ∀ y, (t.set x.1 y).getD i zero128 = if x.1 = i then y else t.getD i zero128 := fun y => by
      rw [List.getD_eq_getElem?_getD, List.getElem?_set]
      by_cases h : x.1 = i
      · rw [if_pos h, if_pos h, if_pos (by omega)]; rfl
      · rw [if_neg h, if_neg h, List.getD_eq_getElem?_getD]
    have old : t.getD i zero128 = s.getD i zero128 ∨ t.getD i zero128 ∈ (if i = x.1 then alt (l.take k) i ++ [x.2, zero128] else alt (l.take k) i) := by
      rcases ih with h | h
      · exact .inl h
      · right; split
        · exact List.mem_append_left _ h
        · exact h
    unfold settleOne
    split
    · rw [set]
      by_cases h : x.1 = i
      · rw [if_pos h]; right; rw [if_pos h.symm]; simp
      · rw [if_neg h]; exact old
    · split
      · rw [set]
        by_cases h : x.1 = i
        · rw [if_pos h]; right; rw [if_pos h.symm]; simp
        · rw [if_neg h]; exact old
      · exact old
/-- P3.4: behind a crash a sector is what was safe, or one that waited, or noughts. -/
theorem crash_alt {d : Dk} {n j : Nat} (ho : d.Ok) (h : Plain d n j) (p : List UInt8) (i : Nat) (hi : i < n) : (d.crash p).read i = d.safe.getD i zero128 ∨ (d.crash p).read i ∈ alt d.waits i := by
  have hs := h.size
  have hr : (d.crash p).reachE i = 0 := by
    unfold Dk.reachE Dk.crash
    rw [if_neg (by simp), if_pos]
    refine ⟨by omega, ?_⟩
    show (i : Int) < ((d.settled (fate p)).length : Int)
    unfold Dk.settled
    rw [settleTo_len]
    omega
  have e : (d.crash p).read i = (settleTo (fate p) d.waits d.safe d.waits.length).getD i zero128 := by
    unfold Dk.read
    rw [if_pos hr]
    simp [Dk.at_, Dk.crash, lastOf, Dk.settled]
  rw [e]
  have := settle_alt (fate p) d.waits d.safe (fun x hx => (ho.wait x hx).1) i (by omega) d.waits.length (Nat.le_refl _)
  rwa [List.take_length] at this

def row8 (f : Nat → Value) : Array Value := ((List.range 8).map f).toArray
theorem row8_size (f : Nat → Value) : (row8 f).size = 8 := by simp [row8]
theorem row8_at (f : Nat → Value) (k : Nat) (h : k < 8) : (row8 f)[k]? = some (f k) := by simp [row8, h]
theorem row8_set (f : Nat → Value) (k : Nat) (v : Value) : (row8 f).setIfInBounds k v = row8 fun i => if i = k then v else f i := by
  apply Array.ext
  · simp [row8]
  · intro i h1 h2
    rw [Array.getElem_setIfInBounds (by simpa using h1)]
    simp only [row8, List.getElem_toArray, List.getElem_map, List.getElem_range]
    by_cases hi : k = i
    · subst hi; simp
    · rw [if_neg hi, if_neg (Ne.symm hi)]
theorem row8_const (v : Value) : #[v, v, v, v, v, v, v, v] = row8 fun _ => v := by simp [row8, List.range, List.range.loop]

/-- The eight rows of what sectors may be. -/
structure Mays (w : World) (mb : Nat) (f : Nat → Value) (L : Nat → List ByteArray) : Prop where
  blk : Blk w mb 55 (row8 f)
  own : ∀ i, i < 8 → w.ownsRow 0 9 1 (f i) (L i).length (strsV (L i))
  apart : ∀ i j, i < 8 → j < 8 → i ≠ j → ∀ b, (f i).ownBlock = some b → (f j).ownBlock ≠ some b
/-- A disk, what its sectors were, and what they may be. -/
structure Scene (w0 w : World) (F : Foot) (g : Nat) (d : Dk) (wb : Nat) (was : Nat → Value) (mb : Nat) (f : Nat → Value) (L : Nat → List ByteArray) : Prop where
  live : Live w0 w F g d
  was : Blk w wb 54 (row8 was)
  mays : Mays w mb f L
  outw : ¬ F wb
  outm : ¬ F mb
  outf : ∀ i, i < 8 → ∀ b, (f i).ownBlock = some b → ¬ F b
  neww : w0.heap.size ≤ wb
  newm : w0.heap.size ≤ mb
  newf : ∀ i, i < 8 → ∀ b, (f i).ownBlock = some b → w0.heap.size ≤ b
namespace Scene
variable {w0 w w' : World} {F F' : Foot} {g wb mb : Nat} {d d' : Dk} {was f : Nat → Value} {L : Nat → List ByteArray}
theorem step (h : Scene w0 w F g d wb was mb f L) (hd : IsDisk w' F' g d') (hs : Step F F' w w') : Scene w0 w' F' g d' wb was mb f L := by
  have far : ∀ b, b < w.heap.size → ¬ F b → ¬ F' b := fun b hb hn hF => (hs.foot b hF).elim hn (by omega)
  refine ⟨h.live.step hd hs, (hs.block wb h.was.lt h.outw).trans h.was, ⟨(hs.block mb h.mays.blk.lt h.outm).trans h.mays.blk, fun i hi => own_keep (h.mays.own i hi) fun b hb => hs.block b ((h.mays.own i hi).lt b hb).2 (h.outf i hi b hb), h.mays.apart⟩,
    far _ h.was.lt h.outw, far _ h.mays.blk.lt h.outm, fun i hi b hb => far b ((h.mays.own i hi).lt b hb).2 (h.outf i hi b hb), h.neww, h.newm, h.newf⟩
theorem more (h : Scene w0 w F g d wb was mb f L) (hb : Below w.heap.size w w') : Scene w0 w' F g d wb was mb f L := h.step (h.live.disk.below hb) (Step.ofBelow hb)
theorem drew (h : Scene w0 w F g d wb was mb f L) : Scene w0 w.drew F g d wb was mb f L := h.step (h.live.disk.drew) (Step.refl F w).drew
/-- What a sector was is laid down. -/
theorem setWas (h : Scene w0 w F g d wb was mb f L) (k : Nat) (v : Value) : Scene w0 (w.setCell ⟨wb, k, none⟩ v) F g d wb (fun i => if i = k then v else was i) mb f L := by
  have set : ∀ b, b ≠ wb → (w.setCell ⟨wb, k, none⟩ v).heap[b]? = w.heap[b]? := fun b hb => heap_setCell_other w ⟨wb, k, none⟩ b v hb
  have hmb : mb ≠ wb := fun e => by
    have h1 := h.was
    have h2 := h.mays.blk
    subst e
    unfold Blk at h1 h2
    rw [h1] at h2
    simp at h2
  have hsz : w.heap.size ≤ (w.setCell ⟨wb, k, none⟩ v).heap.size := by simp [World.setCell]
  refine ⟨⟨h.live.disk.keep (fun b hb => set b (fun e => h.outw (e ▸ hb))) hsz, h.live.new, h.live.below.setCell h.neww v⟩, ?_, ⟨(set mb hmb).trans h.mays.blk, fun i hi => own_keep (h.mays.own i hi) fun b hb => set b (fun e => own_blk (h.mays.own i hi) h.was (by decide) (by rw [hb, e])), h.mays.apart⟩,
    h.outw, h.outm, h.outf, h.neww, h.newm, h.newf⟩
  rw [← row8_set]
  exact h.was.set k v
/-- Something was appended to a row of what sectors may be. -/
theorem push (h : Scene w0 w F g d wb was mb f L) (x : Nat) (hx : x < 8) (l : List ByteArray) {v : Value} (ho : w'.ownsRow 0 9 1 v (L x ++ l).length (strsV (L x ++ l))) (hg : w.grownBy w' (f x).ownBlock) (hat : v.ownBlock = (f x).ownBlock ∨ v.ownBlock = some w.heap.size) :
    Scene w0 (w'.setCell ⟨mb, x, none⟩ v) F g d wb was mb (fun i => if i = x then v else f i) (fun i => if i = x then L x ++ l else L i) := by
  have far : ∀ b, b < w.heap.size → (f x).ownBlock ≠ some b → w'.heap[b]? = w.heap[b]? := fun b hb hne => hg.block b hb (Ne.symm hne)
  have hmb' : Blk w' mb 55 (row8 f) := (far mb h.mays.blk.lt (own_blk (h.mays.own x hx) h.mays.blk (by decide))).trans h.mays.blk
  have hwb' : Blk w' wb 54 (row8 was) := (far wb h.was.lt (own_blk (h.mays.own x hx) h.was (by decide))).trans h.was
  have hmb : mb ≠ wb := fun e => by
    have h1 := h.was
    have h2 := h.mays.blk
    subst e
    unfold Blk at h1 h2
    rw [h1] at h2
    simp at h2
  have set : ∀ b, b ≠ mb → (w'.setCell ⟨mb, x, none⟩ v).heap[b]? = w'.heap[b]? := fun b hb => heap_setCell_other w' ⟨mb, x, none⟩ b v hb
  have hsz : w.heap.size ≤ (w'.setCell ⟨mb, x, none⟩ v).heap.size := by simp [World.setCell]; exact hg.size
  have hold : ∀ b, v.ownBlock = some b → (f x).ownBlock = some b ∨ b = w.heap.size := fun b hb => by
    rcases hat with e | e
    · exact .inl (by rw [← e]; exact hb)
    · right; rw [hb] at e; simpa using e
  refine ⟨⟨h.live.disk.keep (fun b hb => (set b (fun e => h.outm (e ▸ hb))).trans (far b (h.live.disk.lt b hb) (fun e => h.outf x hx b e hb))) hsz, h.live.new, ?_⟩, (set wb (Ne.symm hmb)).trans hwb', ⟨?_, fun i hi => ?_, fun i j hi hj hij b hb => ?_⟩, h.outw, h.outm, fun i hi b hb => ?_, h.neww, h.newm, fun i hi b hb => ?_⟩
  · have hb1 : Below w0.heap.size w0 w' := h.live.below.grown hg h.live.below.size (fun k hk => h.newf x hx k hk)
    exact hb1.setCell h.newm v
  · rw [← row8_set]
    exact hmb'.set x v
  · by_cases e : i = x
    · simp only [e, if_true]
      exact own_keep ho fun b hb => set b (fun e => own_blk ho hmb' (by decide) (by rw [hb, e]))
    · simp only [e, if_false]
      refine own_keep (h.mays.own i hi) fun b hb => (set b (fun e => own_blk (h.mays.own i hi) h.mays.blk (by decide) (by rw [hb, e]))).trans (far b ((h.mays.own i hi).lt b hb).2 (fun k => h.mays.apart i x hi hx e b hb k))
  · by_cases e1 : i = x
    · have e2 : ¬ j = x := fun e => hij (e1.trans e.symm)
      rw [if_pos e1] at hb
      rw [if_neg e2]
      rcases hold b hb with k | k
      · exact h.mays.apart x j hx hj (Ne.symm e2) b k
      · intro k2; have := ((h.mays.own j hj).lt b k2).2; omega
    · rw [if_neg e1] at hb
      by_cases e2 : j = x
      · rw [if_pos e2]
        intro k2
        rcases hold b k2 with k | k
        · exact h.mays.apart i x hi hx e1 b hb k
        · have := ((h.mays.own i hi).lt b hb).2; omega
      · rw [if_neg e2]; exact h.mays.apart i j hi hj hij b hb
  · by_cases e : i = x
    · rw [if_pos e] at hb
      rcases hold b hb with k | k
      · exact h.outf x hx b k
      · intro hF; have := h.live.disk.lt b hF; omega
    · rw [if_neg e] at hb; exact h.outf i hi b hb
  · by_cases e : i = x
    · rw [if_pos e] at hb
      rcases hold b hb with k | k
      · exact h.newf x hx b k
      · have := h.live.below.size; omega
    · rw [if_neg e] at hb; exact h.newf i hi b hb
theorem start (h : Live w0 w F g d) : Scene w0 ((w.alloc (.cells (row8 fun _ => .string ⟨#[]⟩) 54)).alloc (.cells (row8 fun _ => .slice none 0 0) 55)) F g d w.heap.size (fun _ => .string ⟨#[]⟩) (w.heap.size + 1) (fun _ => .slice none 0 0) (fun _ => []) := by
  have h1 := h.more ((Below.refl _ _).alloc (Nat.le_refl _) (.cells (row8 fun _ => .string ⟨#[]⟩) 54))
  have h2 := h1.more ((Below.refl _ _).alloc (Nat.le_refl _) (.cells (row8 fun _ => .slice none 0 0) 55))
  have b1 := (Blk.new w 54 (row8 fun _ => .string ⟨#[]⟩)).alloc (.cells (row8 fun _ => .slice none 0 0) 55)
  have b2 := Blk.new (w.alloc (.cells (row8 fun _ => .string ⟨#[]⟩) 54)) 55 (row8 fun _ => .slice none 0 0)
  rw [World.size_alloc] at b2
  have lt := h.disk.lt
  have hs := h.below.size
  refine ⟨h2, b1, ⟨b2, fun i _ => World.ownsRow_nil _ _ _ _, fun i j _ _ _ b hb => by simp [Value.ownBlock] at hb⟩, fun e => by have := lt _ e; omega, fun e => by have := lt _ e; omega, fun i _ b hb => by simp [Value.ownBlock] at hb, hs, by omega, fun i _ b hb => by simp [Value.ownBlock] at hb⟩
theorem congr {was' : Nat → Value} {L' : Nat → List ByteArray} (h : Scene w0 w F g d wb was mb f L) (h1 : ∀ i, i < 8 → was i = was' i) (h3 : ∀ i, L i = L' i) : Scene w0 w F g d wb was' mb f L' := by
  have e1 : row8 was = row8 was' := by
    unfold row8
    congr 1
    exact List.map_congr_left fun i hi => h1 i (List.mem_range.1 hi)
  have e3 : L = L' := funext h3
  subst e3
  exact ⟨h.live, by rw [← e1]; exact h.was, h.mays, h.outw, h.outm, h.outf, h.neww, h.newm, h.newf⟩
theorem read (h : Scene w0 w F g d wb was mb f L) (i : Int) (e0 : Nat) (he : d.reachE i = e0) (s : ByteArray) (hs : d.read i = s) :
    Calls Try.prog 27 #[.pointer (some ⟨g, 0, none⟩), .int .i64 i] w fun e w' => e = .returned (.tuple #[.string s, .int .i64 e0]) ∧ Scene w0 w' F g d wb was mb f L := by
  subst he; subst hs
  exact (read_any h.live.disk i).mono fun e w' ⟨he, k⟩ => ⟨he, h.more k⟩
theorem write (h : Scene w0 w F g d wb was mb f L) (i : Int) (s : ByteArray) (hl : d.waits.length < 16777216) (e0 : Nat) (he : d.writeE i s = e0) (hd : d.write i s = d') :
    Calls Try.prog 14 #[.pointer (some ⟨g, 0, none⟩), .int .i64 i, .string s] w fun e w' => e = .returned (.int .i64 e0) ∧ ∃ F', Scene w0 w' F' g d' wb was mb f L := by
  subst he; subst hd
  exact (write_any h.live.disk i s hl).mono fun e w' ⟨he, F', k1, k2⟩ => ⟨he, F', h.step k1 k2⟩
theorem crash (h : Scene w0 w F g d wb was mb f L) (v : Value) (p : List UInt8) (hr : Reads w v (byteVs p)) (hv : p ≠ [] → ∀ b, v.ownBlock = some b → ¬ F b) (hd : d.crash p = d') :
    Calls Try.prog 19 #[.pointer (some ⟨g, 0, none⟩), v] w fun e w' => e = .returned (.tuple #[]) ∧ ∃ F', Scene w0 w' F' g d' wb was mb f L := by
  subst hd
  exact (crash_any h.live.disk v p hr hv).mono fun e w' ⟨he, k1, k2⟩ => ⟨he, F, h.step k1 k2⟩
end Scene
end Go.Proofs.Ytapkelnpkonmpaa
