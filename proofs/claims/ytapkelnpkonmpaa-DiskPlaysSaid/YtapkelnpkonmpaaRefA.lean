/- The document's own disk (careenref03): what it is in memory; the small calls. -/
import Derived.Test.YtapkelnpkonmpaaDiskS
namespace Go.Proofs.Ytapkelnpkonmpaa
open Go.RowKit

def refFuse (f : Option Nat) : Int := match f with | some n => n | none => -1
def refCells (vs vq : Value) (gone : Bool) (fuse : Int) : Array Value := #[vs, vq, .bool gone, .int .i64 fuse]
structure RefRaw (w : World) (F : Foot) (g : Nat) (d : Dk) (vs vq : Value) : Prop where
  head : Blk w g 43 (refCells vs vq d.gone (refFuse d.fuse))
  safe : w.ownsRow 0 9 1 vs d.safe.length (strsV d.safe)
  wait : w.ownsRow 0 71 2 vq d.waits.length (waitsV d.waits)
  fg : F g
  fs : ∀ b, vs.ownBlock = some b → F b
  fq : ∀ b, vq.ownBlock = some b → F b
  lt : ∀ b, F b → b < w.heap.size
def IsRef (w : World) (F : Foot) (g : Nat) (d : Dk) : Prop := ∃ vs vq, RefRaw w F g d vs vq
namespace RefRaw
variable {w w' W w1 : World} {F F' F2 F2' : Foot} {g : Nat} {d : Dk} {vs vq : Value}
theorem keep (h : RefRaw w F g d vs vq) (hk : ∀ b, F b → w'.heap[b]? = w.heap[b]?) (hs : w.heap.size ≤ w'.heap.size) : RefRaw w' F g d vs vq :=
  ⟨(hk g h.fg).trans h.head, own_keep h.safe fun b hb => hk b (h.fs b hb), own_keep h.wait fun b hb => hk b (h.fq b hb), h.fg, h.fs, h.fq, fun b hb => Nat.lt_of_lt_of_le (h.lt b hb) hs⟩
theorem below (h : RefRaw w F g d vs vq) (hb : Below w.heap.size w w') : RefRaw w' F g d vs vq := h.keep (fun b hF => hb.block b (h.lt b hF)) hb.size
theorem drew (h : RefRaw w F g d vs vq) : RefRaw w.drew F g d vs vq := h.keep (fun _ _ => rfl) (Nat.le_refl _)
theorem cells (h : RefRaw w F g d vs vq) : w.cell? ⟨g, 0, none⟩ = some vs ∧ w.cell? ⟨g, 1, none⟩ = some vq ∧ w.cell? ⟨g, 2, none⟩ = some (.bool d.gone) ∧ w.cell? ⟨g, 3, none⟩ = some (.int .i64 (refFuse d.fuse)) :=
  ⟨h.head.cell 0, h.head.cell 1, h.head.cell 2, h.head.cell 3⟩
theorem frozen (h : RefRaw w F g d vs vq) (i : Nat) : w.frozen? ⟨g, i, none⟩ = false := h.head.frozen i
theorem gs (h : RefRaw w F g d vs vq) : vs.ownBlock ≠ some g := own_blk h.safe h.head (by decide)
theorem gq (h : RefRaw w F g d vs vq) : vq.ownBlock ≠ some g := own_blk h.wait h.head (by decide)
theorem sq (h : RefRaw w F g d vs vq) {b : Nat} (hb : vs.ownBlock = some b) : vq.ownBlock ≠ some b := own_apart h.safe h.wait (by decide) hb
/-- Another head, all else as it was. -/
theorem reheaded (h : RefRaw w F g d vs vq) {gone : Bool} {k : Option Nat} (hb : Blk w' g 43 (refCells vs vq gone (refFuse k)))
    (far : ∀ b, b ≠ g → w'.heap[b]? = w.heap[b]?) (hs : w.heap.size ≤ w'.heap.size) : RefRaw w' F g { d with gone := gone, fuse := k } vs vq :=
  ⟨hb, own_keep h.safe fun b hb => far b (fun e => h.gs (by rw [hb, e])), own_keep h.wait fun b hb => far b (fun e => h.gq (by rw [hb, e])), h.fg, h.fs, h.fq, fun b hb => Nat.lt_of_lt_of_le (h.lt b hb) hs⟩
theorem set1 (h : RefRaw w F g d vs vq) (i : Nat) (v : Value) {gone : Bool} {k : Option Nat} (e : (refCells vs vq d.gone (refFuse d.fuse)).setIfInBounds i v = refCells vs vq gone (refFuse k)) :
    RefRaw (w.setCell ⟨g, i, none⟩ v) F g { d with gone := gone, fuse := k } vs vq :=
  h.reheaded (by rw [← e]; exact h.head.set i v) (fun b hb => heap_setCell_other w ⟨g, i, none⟩ b v hb) (by simp [World.setCell])
/-- A sector is written where it is safe. -/
theorem stored {b cap n : Nat} (h : RefRaw w F g d (.slice (some ⟨b, 0, none⟩) n cap) vq) (hn : n = d.safe.length) (k : Nat) (s : ByteArray) :
    RefRaw (w.setCell ⟨b, k, none⟩ (.string s)) F g { d with safe := d.safe.set k s } (.slice (some ⟨b, 0, none⟩) n cap) vq ∧ Step F F w (w.setCell ⟨b, k, none⟩ (.string s)) := by
  subst hn
  have set : ∀ c, c ≠ b → (w.setCell ⟨b, k, none⟩ (.string s)).heap[c]? = w.heap[c]? := fun c hc => heap_setCell_other w ⟨b, k, none⟩ c _ hc
  have hb : (Value.slice (some ⟨b, 0, none⟩) d.safe.length cap).ownBlock = some b := rfl
  have so := (h.safe.stored k (.string s)).1
  rw [strsV_set] at so
  refine ⟨⟨(set g fun e => h.gs (by rw [hb, e])).trans h.head, ?_, own_keep h.wait fun c hc => set c (fun e => h.sq hb (by rw [hc, e])), h.fg, h.fs, h.fq, fun c hc => by simpa [World.setCell] using h.lt c hc⟩, (Step.refl F w).set (p := ⟨b, k, none⟩) (h.fs b hb) _⟩
  have e : (d.safe.set k s).length = d.safe.length := List.length_set ..
  show World.ownsRow _ _ _ _ _ (d.safe.set k s).length _
  rw [e]
  exact so
/-- Another row of writes that wait. -/
theorem rewait (h : RefRaw W F g d vs vq) (l : List (Nat × ByteArray)) {v' : Value} (hown : w1.ownsRow 0 71 2 v' l.length (waitsV l))
    (hst : Step F F W w1) (hfar : ∀ b, b < W.heap.size → vq.ownBlock ≠ some b → w1.heap[b]? = W.heap[b]?) (hat : ∀ b, v'.ownBlock = some b → F b ∨ W.heap.size ≤ b) :
    RefRaw (w1.setCell ⟨g, 1, none⟩ v') (fun b => F b ∨ v'.ownBlock = some b) g { d with waits := l } vs v' ∧ Step F (fun b => F b ∨ v'.ownBlock = some b) W (w1.setCell ⟨g, 1, none⟩ v') := by
  have lt := h.lt
  have hh : Blk w1 g 43 (refCells vs vq d.gone (refFuse d.fuse)) := (hfar g (lt g h.fg) h.gq).trans h.head
  have hv : v'.ownBlock ≠ some g := own_blk hown hh (by decide)
  have set : ∀ b, b ≠ g → (w1.setCell ⟨g, 1, none⟩ v').heap[b]? = w1.heap[b]? := fun b hb => heap_setCell_other w1 ⟨g, 1, none⟩ b _ hb
  have hs2 : Step F (fun b => F b ∨ v'.ownBlock = some b) W w1 := ⟨hst.os, hst.tape, hst.output, hst.size, hst.block, fun b hb => hb.elim .inl (hat b)⟩
  refine ⟨⟨hh.set 1 v', ?_, ?_, .inl h.fg, fun b hb => .inl (h.fs b hb), fun b hb => .inr hb, fun b hb => ?_⟩, hs2.set (p := ⟨g, 1, none⟩) (.inl h.fg) _⟩
  · exact own_keep h.safe fun b hb => (set b (fun e => h.gs (by rw [hb, e]))).trans (hfar b (lt b (h.fs b hb)) (h.sq hb))
  · exact own_keep (w' := w1.setCell ⟨g, 1, none⟩ v') hown fun b hb => set b (fun e => hv (by rw [hb, e]))
  · show b < (w1.setCell _ _).heap.size
    rcases hb with hb | hb
    · have := lt b hb; have := hst.size; simp [World.setCell]; omega
    · have := (hown.lt b hb).2; simpa [World.setCell] using this
/-- None waits any more. -/
theorem dropped (h : RefRaw w F g d vs vq) : RefRaw (w.setCell ⟨g, 1, none⟩ (.slice none 0 0)) F g { d with waits := [] } vs (.slice none 0 0) ∧ Step F F w (w.setCell ⟨g, 1, none⟩ (.slice none 0 0)) := by
  obtain ⟨r, _⟩ := h.rewait (v' := .slice none 0 0) [] (World.ownsRow_nil _ _ _ _) (Step.refl F w) (fun _ _ _ => rfl) (fun b hb => by simp [Value.ownBlock] at hb)
  exact ⟨⟨r.head, r.safe, r.wait, h.fg, h.fs, fun b hb => by simp [Value.ownBlock] at hb, fun b hb => r.lt b (.inl hb)⟩, (Step.refl F w).set (p := ⟨g, 1, none⟩) h.fg _⟩
end RefRaw
namespace IsRef
variable {w w' : World} {F F' F2 F2' : Foot} {g : Nat} {d : Dk}
theorem keep (h : IsRef w F g d) (hk : ∀ b, F b → w'.heap[b]? = w.heap[b]?) (hs : w.heap.size ≤ w'.heap.size) : IsRef w' F g d := by
  obtain ⟨vs, vq, r⟩ := h
  exact ⟨vs, vq, r.keep hk hs⟩
theorem below (h : IsRef w F g d) (hb : Below w.heap.size w w') : IsRef w' F g d := by
  obtain ⟨vs, vq, r⟩ := h
  exact ⟨vs, vq, r.below hb⟩
theorem lt (h : IsRef w F g d) : ∀ b, F b → b < w.heap.size := by obtain ⟨_, _, r⟩ := h; exact r.lt
end IsRef

theorem ref_head {w : World} {d : Dk} {vs : Value} (ho : d.Ok) (h : w.ownsRow 0 9 1 vs d.safe.length (strsV d.safe)) : ∃ s cap, vs = .slice (some ⟨s, 0, none⟩) d.safe.length cap ∧ d.safe.length ≤ cap := own_head ho h

section
variable {w : World} {F : Foot} {g : Nat} {d : Dk}
set_option maxRecDepth 100000 in
set_option maxHeartbeats 1000000 in
theorem refZero_any (w : World) : Calls Try.prog 31 #[] w fun e w' => e = .returned (.string zero128) ∧ Below w.heap.size w w' := by
  obtain ⟨i, hi, hz, hs1, hs2⟩ := info_parts (show (Try.prog.info? 5).map (fun i => (i.zero, i.size, i.bytes)) = some (some (.int .u8 0), 1, 1) from by kernel_rfl)
  have hmk : ∀ W : World, (Instr.makeSlice 31 (.int .i64 128) (.int .i64 128)).run Try.prog W = .ok (.slice (some ⟨W.heap.size, 0, none⟩) 128 128) (W.alloc (.cells (bytesV (fullL 0)) 5)) := fun W => by
    have h := run_make (P := Try.prog) W 31 5 i (.int .u8 0) Try.underlying31 hi hz .i64 .i64 128 128 (by omega) (by omega) (by rw [hs2]; omega) (by omega)
    have e : madeCells (Value.int .u8 0).cells ((128 : Int).toNat * i.size) = bytesV (fullL 0) := by
      rw [hs1]
      apply Array.ext'
      rw [show (Value.int .u8 0).cells = #[Value.int .u8 0] from rfl, toList_madeCells_one]
      simp [bytesV, fullL]
    rw [e] at h
    simpa using h
  have hcv := conv_blk (Blk.new w 5 (bytesV (fullL 0))) 0 128 128 (by simp [fullL]) 31 5 9 Try.underlying31 Try.underlying5 Try.underlying9
  rw [List.drop_zero, List.take_of_length_le (by simp [fullL])] at hcv
  go_enter Try.func31, Try.ntmps31
  go_wp2
  go_ret
  exact ⟨rfl, (Below.refl _ _).alloc (Nat.le_refl _) _⟩
theorem ref_set {v : Value} {i : Nat} (hg : F g) : Step F F w (w.setCell ⟨g, i, none⟩ v) := (Step.refl F w).set (p := ⟨g, i, none⟩) hg v

set_option maxRecDepth 100000 in
set_option maxHeartbeats 1000000 in
theorem borne_any (h : IsRef w F g d) (hfl : ∀ f, d.fuse = some f → f < 9223372036854775808) (b : Bool) (hb : b = d.bears) :
    Calls Try.prog 35 #[.pointer (some ⟨g, 0, none⟩)] w fun e w' => e = .returned (.bool b) ∧ IsRef w' F g d.burn ∧ Step F F w w' := by
  obtain ⟨vs, vq, r⟩ := h
  obtain ⟨_, _, c2, c3⟩ := r.cells
  have f2 := r.frozen 2
  have f3 := r.frozen 3
  have hsg := fun v i => @ref_set w F g v i r.fg
  obtain ⟨safe, waits, gone, fuse⟩ := d
  cases gone with
  | true =>
    obtain rfl : b = false := hb
    have hd : IsRef (w.setCell ⟨g, 2, none⟩ (.bool true)) F g (Dk.mk safe waits true fuse).burn := by
      have e : (Dk.mk safe waits true fuse).burn = Dk.mk safe waits true fuse := by cases fuse <;> rfl
      rw [e]
      exact ⟨vs, vq, r.set1 2 (.bool true) (gone := true) (k := fuse) rfl⟩
    have HD := Lib.hid hd
    have HS := Lib.hid (hsg (.bool true) 2)
    clear hd r hsg hfl
    go_enter Try.func35, Try.ntmps35
    go_wp2
    go_ret
    exact ⟨rfl, HD.out, HS.out⟩
  | false =>
    cases fuse with
    | none =>
      obtain rfl : b = true := hb
      have hd : IsRef w F g (Dk.mk safe waits false none).burn := ⟨vs, vq, r⟩
      have HD := Lib.hid hd
      change w.cell? _ = some (.int .i64 (-1)) at c3
      clear hd r hsg hfl
      go_enter Try.func35, Try.ntmps35
      go_wp2
      go_ret
      exact ⟨rfl, HD.out, Step.refl _ _⟩
    | some f =>
      cases f with
      | zero =>
        obtain rfl : b = false := hb
        have hd : IsRef (w.setCell ⟨g, 2, none⟩ (.bool true)) F g (Dk.mk safe waits false (some 0)).burn :=
          ⟨vs, vq, r.set1 2 (.bool true) (gone := true) (k := some 0) rfl⟩
        have HD := Lib.hid hd
        have HS := Lib.hid (hsg (.bool true) 2)
        change w.cell? _ = some (.int .i64 0) at c3
        clear hd r hsg hfl
        go_enter Try.func35, Try.ntmps35
        go_wp2
        go_ret
        exact ⟨rfl, HD.out, HS.out⟩
      | succ f =>
        obtain rfl : b = true := hb
        change w.cell? _ = some (.int .i64 ((f + 1 : Nat) : Int)) at c3
        have hlt := hfl (f + 1) rfl
        have e5 : (((f + 1 : Nat) : Int) == 0) = false := by rw [beq_eq_false_iff_ne]; omega
        have e6 : decide ((0 : Int) < ((f + 1 : Nat) : Int)) = true := by simp
        have e7 : (0 : Int) < ((f + 1 : Nat) : Int) := by omega
        have ew : IntKind.i64.wrap (((f + 1 : Nat) : Int) - 1) = (f : Int) := by rw [IntKind.wrap_i64]; omega
        have hd : IsRef (w.setCell ⟨g, 3, none⟩ (.int .i64 (f : Int))) F g (Dk.mk safe waits false (some (f + 1))).burn :=
          ⟨vs, vq, r.set1 3 (.int .i64 (f : Int)) (gone := false) (k := some f) rfl⟩
        have HD := Lib.hid hd
        have HS := Lib.hid (hsg (.int .i64 (f : Int)) 3)
        generalize ((f + 1 : Nat) : Int) = x at *
        generalize (f : Int) = y at *
        clear hd r hsg hlt hfl
        go_enter Try.func35, Try.ntmps35
        go_wp2
        go_ret
        exact ⟨rfl, HD.out, HS.out⟩
end
end Go.Proofs.Ytapkelnpkonmpaa
