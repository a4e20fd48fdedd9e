/- The statement DiskAll, walked: several disks beside one another. -/
import Derived.Test.YtapkelnpkonmpaaDiskP
namespace Go.Proofs.Ytapkelnpkonmpaa
open Go.RowKit

/-- Disks that were made since w0, apart from one another: the footprint, the block and the state of each. -/
structure Many (w0 w : World) (L : List (Foot × Nat × Dk)) : Prop where
  below : Below w0.heap.size w0 w
  each : ∀ x ∈ L, IsDisk w x.1 x.2.1 x.2.2 ∧ ∀ b, x.1 b → w0.heap.size ≤ b
  apart : L.Pairwise fun x y => ∀ b, x.1 b → ¬ y.1 b
namespace Many
variable {w0 w w' : World} {l r L : List (Foot × Nat × Dk)} {F F' : Foot} {g : Nat} {d d' : Dk}
theorem one (h : Live w0 w F g d) : Many w0 w [(F, g, d)] := ⟨h.below, fun x hx => by simp at hx; subst hx; exact ⟨h.disk, h.new⟩, by simp⟩
theorem more (h : Many w0 w L) (hb : Below w.heap.size w w') : Many w0 w' L :=
  ⟨h.below.trans (hb.mono h.below.size), fun x hx => ⟨(h.each x hx).1.below hb, (h.each x hx).2⟩, h.apart⟩
theorem drew (h : Many w0 w L) : Many w0 w.drew L := ⟨h.below.drew, fun x hx => ⟨(h.each x hx).1.drew, (h.each x hx).2⟩, h.apart⟩
theorem live (h : Many w0 w (l ++ (F, g, d) :: r)) : Live w0 w F g d := ⟨(h.each (F, g, d) (by simp)).1, (h.each (F, g, d) (by simp)).2, h.below⟩
theorem act (h : Many w0 w (l ++ (F, g, d) :: r)) (hd : IsDisk w' F' g d') (hs : Step F F' w w') : Many w0 w' (l ++ (F', g, d') :: r) := by
  have hl := h.live
  obtain ⟨p1, p2, p3⟩ := List.pairwise_append.1 h.apart
  obtain ⟨p4, p5⟩ := List.pairwise_cons.1 p2
  have pl : ∀ x ∈ l, ∀ b, x.1 b → ¬ F b := fun x hx => p3 x hx (F, g, d) (by simp)
  have pr : ∀ x ∈ r, ∀ b, x.1 b → ¬ F b := fun x hx b hb hF => p4 x hx b hF hb
  have key : ∀ x, (x ∈ l ∨ x ∈ r) → (IsDisk w' x.1 x.2.1 x.2.2 ∧ ∀ b, x.1 b → w0.heap.size ≤ b) ∧ ∀ b, x.1 b → ¬ F' b := fun x hx => by
    have hm : x ∈ l ++ (F, g, d) :: r := by rcases hx with hx | hx <;> simp [hx]
    obtain ⟨k1, k2⟩ := (h.each x hm).1.apart hs (hx.elim (pl x) (pr x))
    exact ⟨⟨k1, (h.each x hm).2⟩, k2⟩
  refine ⟨hs.belowB hl.new hl.below hl.below.size, fun x hx => ?_, ?_⟩
  · rcases List.mem_append.1 hx with hx | hx
    · exact (key x (.inl hx)).1
    · rcases List.mem_cons.1 hx with rfl | hx
      · exact ⟨hd, hs.from_ hl.new hl.below.size⟩
      · exact (key x (.inr hx)).1
  · refine List.pairwise_append.2 ⟨p1, List.pairwise_cons.2 ⟨fun x hx b hF hb => (key x (.inr hx)).2 b hb hF, p5⟩, fun x hx y hy => ?_⟩
    rcases List.mem_cons.1 hy with rfl | hy
    · exact (key x (.inl hx)).2
    · exact p3 x hx y (by simp [hy])
theorem write (h : Many w0 w (l ++ (F, g, d) :: r)) (i : Int) (s : ByteArray) (hl : d.waits.length < 16777216) (e0 : Nat) (he : d.writeE i s = e0) (hd : d.write i s = d') :
    Calls Try.prog 14 #[.pointer (some ⟨g, 0, none⟩), .int .i64 i, .string s] w fun e w' => e = .returned (.int .i64 e0) ∧ ∃ F', Many w0 w' (l ++ (F', g, d') :: r) := by
  subst he; subst hd
  exact (write_any h.live.disk i s hl).mono fun e w' ⟨he, F', k1, k2⟩ => ⟨he, F', h.act k1 k2⟩
theorem sync (h : Many w0 w (l ++ (F, g, d) :: r)) (e0 : Nat) (he : d.syncE = e0) (hd : d.sync = d') :
    Calls Try.prog 16 #[.pointer (some ⟨g, 0, none⟩)] w fun e w' => e = .returned (.int .i64 e0) ∧ ∃ F', Many w0 w' (l ++ (F', g, d') :: r) := by
  subst he; subst hd
  exact (sync_any h.live.disk).mono fun e w' ⟨he, k1, k2⟩ => ⟨he, F, h.act k1 k2⟩
theorem crash (h : Many w0 w (l ++ (F, g, d) :: r)) (v : Value) (p : List UInt8) (hr : Reads w v (byteVs p)) (hv : p ≠ [] → ∀ b, v.ownBlock = some b → ¬ F b) (hd : d.crash p = d') :
    Calls Try.prog 19 #[.pointer (some ⟨g, 0, none⟩), v] w fun e w' => e = .returned (.tuple #[]) ∧ ∃ F', Many w0 w' (l ++ (F', g, d') :: r) := by
  subst hd
  exact (crash_any h.live.disk v p hr hv).mono fun e w' ⟨he, k1, k2⟩ => ⟨he, F, h.act k1 k2⟩
theorem read (h : Many w0 w (l ++ (F, g, d) :: r)) (i : Int) (e0 : Nat) (he : d.reachE i = e0) (s : ByteArray) (hs : d.read i = s) :
    Calls Try.prog 27 #[.pointer (some ⟨g, 0, none⟩), .int .i64 i] w fun e w' => e = .returned (.tuple #[.string s, .int .i64 e0]) ∧ Below w.heap.size w w' := by
  subst he; subst hs
  exact read_any h.live.disk i
theorem copy (h : Many w0 w (l ++ (F, g, d) :: r)) (hl : d.waits.length ≤ 100000000) :
    Calls Try.prog 23 #[.pointer (some ⟨g, 0, none⟩)] w fun e w' => ∃ c F', e = .returned (.pointer (some ⟨c, 0, none⟩)) ∧ Many w0 w' ((l ++ (F, g, d) :: r) ++ [(F', c, d)]) := by
  refine (copy_any h.live.disk hl).mono fun e w' ⟨c, F', he, hd, hF, hb⟩ => ⟨c, F', he, ?_⟩
  have hm := h.more hb
  refine ⟨hm.below, fun x hx => ?_, List.pairwise_append.2 ⟨hm.apart, by simp, fun x hx y hy b h1 h2 => ?_⟩⟩
  · rcases List.mem_append.1 hx with hx | hx
    · exact hm.each x hx
    · simp at hx; subst hx; exact ⟨hd, fun b hb => Nat.le_trans h.below.size (hF b hb)⟩
  · simp at hy
    subst hy
    have := (h.each x hx).1.lt b h1
    have := hF b h2
    omega
end Many

theorem fate_one (j : Nat) : fate [1] j = 1 := by simp [fate, Nat.mod_one]
theorem fate_zero (j : Nat) : fate [0] j = 0 := by simp [fate, Nat.mod_one]
theorem settle_congr {f h : Nat → Nat} (e : ∀ j, f j = h j) (l : List (Nat × ByteArray)) (s : List ByteArray) : ∀ k, settleTo f l s k = settleTo h l s k
  | 0 => rfl
  | k + 1 => by
    unfold settleTo
    rw [settle_congr e l s k, e k]
theorem settle_none (l : List (Nat × ByteArray)) (s : List ByteArray) : ∀ k, settleTo (fun _ => 0) l s k = s
  | 0 => rfl
  | k + 1 => by
    unfold settleTo
    rw [settle_none l s k]
    split <;> rfl
theorem Plain.crash_one {d : Dk} {n j : Nat} (h : Plain d n j) : d.crash [1] = d.sync := by
  rw [h.sync_is]
  unfold Dk.crash Dk.settled
  rw [settle_congr fate_one]
  cases d
  have h1 := h.gone
  have h2 := h.fuse
  simp at h1 h2
  subst h1; subst h2
  rfl
theorem Plain.crash_zero {d s : Dk} {n j : Nat} (_ : Plain d n j) (hs : Plain s n 0) (he : d.safe = s.safe) : d.crash [0] = s := by
  unfold Dk.crash Dk.settled
  rw [settle_congr fate_zero, settle_none, he]
  cases s
  have h1 := hs.gone
  have h2 := hs.fuse
  have h3 := hs.waits
  simp at h1 h2 h3
  subst h1; subst h2; subst h3
  rfl
theorem Plain.weak {d : Dk} {n j k : Nat} (h : Plain d n j) (hk : d.waits.length ≤ k) : Plain d n k := ⟨h.size, hk, h.gone, h.fuse⟩
/-- A slice of one byte that was laid alone. -/
theorem reads_one (w : World) (x : UInt8) : Reads (w.alloc (.cells #[.int .u8 (x.toNat : Int)] 5)) (.slice (some ⟨w.heap.size, 0, none⟩) 1 1) (byteVs [x]) :=
  Reads.mk' (vs := byteVs [x]) (Nat.le_refl _) fun j v hj => by
    match j, hj with
    | 0, hj =>
      simp [byteVs] at hj
      subst hj
      exact (Blk.new w 5 #[.int .u8 (x.toNat : Int)]).cell 0
/-- An operation of a list, its cells in a later world. -/
theorem op_cells {w wr : World} {ad : Option Addr} {ops : List OpD} {j : Nat} (h : ∀ j o, ops[j]? = some o → ∃ b off, ad = some ⟨b, off, none⟩ ∧ OpAt w b (off + j * 5) o) (hB : Below w.heap.size w wr) (hlt : j < ops.length) :
    ∃ b off np cap', ad = some ⟨b, off, none⟩ ∧ ∃ pa, wr.cell? ⟨b, off + j * 5, none⟩ = some (.int .i64 ops[j].kind) ∧ wr.cell? ⟨b, off + j * 5 + 1, none⟩ = some (.int .i64 ops[j].i) ∧ wr.cell? ⟨b, off + j * 5 + 2, none⟩ = some (.int .i64 ops[j].n) ∧
      wr.cell? ⟨b, off + j * 5 + 3, none⟩ = some (.int .u8 (ops[j].s.toNat : Int)) ∧ wr.cell? ⟨b, off + j * 5 + 4, none⟩ = some (.slice pa np cap') ∧ ops[j].pv = .slice pa np cap' := by
  obtain ⟨blk, off, ha, ho⟩ := h j _ (List.getElem?_eq_getElem hlt)
  have hlb := World.block_lt_of_cell? w _ ho.c0
  have c := fun x => hB.cell (p := ⟨blk, x, none⟩) hlb
  obtain ⟨a', cap', hpv, _⟩ := ho.picks
  exact ⟨blk, off, _, cap', ha, a', (c _).trans ho.c0, (c _).trans ho.c1, (c _).trans ho.c2, (c _).trans ho.c3, (c _).trans (ho.c4.trans (by rw [hpv])), hpv⟩
end Go.Proofs.Ytapkelnpkonmpaa
