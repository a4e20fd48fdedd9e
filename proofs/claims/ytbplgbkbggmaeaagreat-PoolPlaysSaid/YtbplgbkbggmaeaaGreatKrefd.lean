/- Texts that belong together, joined: Full, RefA, RefB, RefC, RefD, RefE, RefF. -/
import Derived.Test.YtbplgbkbggmaeaaGreatKbase
import Derived.Test.YtbplgbkbggmaeaaGreatKdisk
namespace Go.Proofs.YtbplgbkbggmaeaaGreat
open Go.RowKit
def fullL (c : UInt8) : List UInt8 := List.replicate 128 c
end Go.Proofs.YtbplgbkbggmaeaaGreat

namespace Go.Proofs.YtbplgbkbggmaeaaGreat
open Go.RowKit
def refFuse (f : Option Nat) : Int := match f with | some n => n | none => -1
def refCells (vs vq : Value) (gone : Bool) (fuse : Int) : Array Value := #[vs, vq, .bool gone, .int .i64 fuse]
structure RefRaw (w : World) (F : Foot) (g : Nat) (d : Dk) (vs vq : Value) : Prop where
 head : Blk w g 69 (refCells vs vq d.gone (refFuse d.fuse))
 safe : w.ownsRow 0 9 1 vs d.safe.length (strsV d.safe)
 wait : w.ownsRow 0 159 2 vq d.waits.length (waitsV d.waits)
 fg : F g
 fs : ∀ b, vs.ownBlock = some b → F b
 fq : ∀ b, vq.ownBlock = some b → F b
 lt : ∀ b, F b → b < w.heap.size
def IsRef (w : World) (F : Foot) (g : Nat) (d : Dk) : Prop := ∃ vs vq, RefRaw w F g d vs vq
namespace RefRaw
variable {w w' W w1 : World} {F F' F2 F2' : Foot} {g : Nat} {d : Dk} {vs vq : Value}
theorem keep (h : RefRaw w F g d vs vq) (hk : ∀ b, F b → w'.heap[b]? = w.heap[b]?) (hs : w.heap.size ≤ w'.heap.size) : RefRaw w' F g d vs vq :=
 ⟨(hk g h.fg).trans h.head, own_keep h.safe fun b hb => hk b (h.fs b hb), own_keep h.wait fun b hb => hk b (h.fq b hb), h.fg, h.fs, h.fq, fun b hb => Nat.lt_of_lt_of_le (h.lt b hb) hs⟩
theorem below (h : RefRaw w F g d vs vq) (hb : Below w.heap.size w w') : RefRaw w' F g d vs vq := h.keep (fun b hF => hb.block b (h.lt b hF)) hb.size
theorem drew (h : RefRaw w F g d vs vq) : RefRaw w.drew F g d vs vq := h.keep (fun _ _ => rfl) (Nat.le_refl _)
theorem cells (h : RefRaw w F g d vs vq) : w.cell? ⟨g, 0, none⟩ = some vs ∧ w.cell? ⟨g, 1, none⟩ = some vq ∧ w.cell? ⟨g, 2, none⟩ = some (.bool d.gone) ∧ w.cell? ⟨g, 3, none⟩ = some (.int .i64 (refFuse d.fuse)) :=
 ⟨h.head.cell 0, h.head.cell 1, h.head.cell 2, h.head.cell 3⟩
theorem frozen (h : RefRaw w F g d vs vq) (i : Nat) : w.frozen? ⟨g, i, none⟩ = false := h.head.frozen i
theorem gs (h : RefRaw w F g d vs vq) : vs.ownBlock ≠ some g := own_blk h.safe h.head (by decide)
theorem gq (h : RefRaw w F g d vs vq) : vq.ownBlock ≠ some g := own_blk h.wait h.head (by decide)
theorem sq (h : RefRaw w F g d vs vq) {b : Nat} (hb : vs.ownBlock = some b) : vq.ownBlock ≠ some b := own_apart h.safe h.wait (by decide) hb
theorem reheaded (h : RefRaw w F g d vs vq) {gone : Bool} {k : Option Nat} (hb : Blk w' g 69 (refCells vs vq gone (refFuse k)))
   (far : ∀ b, b ≠ g → w'.heap[b]? = w.heap[b]?) (hs : w.heap.size ≤ w'.heap.size) : RefRaw w' F g { d with gone := gone, fuse := k } vs vq :=
 ⟨hb, own_keep h.safe fun b hb => far b (fun e => h.gs (by rw [hb, e])), own_keep h.wait fun b hb => far b (fun e => h.gq (by rw [hb, e])), h.fg, h.fs, h.fq, fun b hb => Nat.lt_of_lt_of_le (h.lt b hb) hs⟩
theorem set1 (h : RefRaw w F g d vs vq) (i : Nat) (v : Value) {gone : Bool} {k : Option Nat} (e : (refCells vs vq d.gone (refFuse d.fuse)).setIfInBounds i v = refCells vs vq gone (refFuse k)) :
   RefRaw (w.setCell ⟨g, i, none⟩ v) F g { d with gone := gone, fuse := k } vs vq :=
 h.reheaded (by rw [← e]; exact h.head.set i v) (fun b hb => heap_setCell_other w ⟨g, i, none⟩ b v hb) (by simp [World.setCell])
theorem stored {b cap n : Nat} (h : RefRaw w F g d (.slice (some ⟨b, 0, none⟩) n cap) vq) (hn : n = d.safe.length) (k : Nat) (s : ByteArray) :
   RefRaw (w.setCell ⟨b, k, none⟩ (.string s)) F g { d with safe := d.safe.set k s } (.slice (some ⟨b, 0, none⟩) n cap) vq ∧ Step F F w (w.setCell ⟨b, k, none⟩ (.string s)) := by
 subst hn
 have set : ∀ c, c ≠ b → (w.setCell ⟨b, k, none⟩ (.string s)).heap[c]? = w.heap[c]? := fun c hc => heap_setCell_other w ⟨b, k, none⟩ c _ hc
 have hb : (Value.slice (some ⟨b, 0, none⟩) d.safe.length cap).ownBlock = some b := rfl
 have so := (h.safe.stored k (.string s)).1
 rw [strsV_set] at so
 refine ⟨⟨(set g fun e => h.gs (by rw [hb, e])).trans h.head, ?_, own_keep h.wait fun c hc => set c (fun e => h.sq hb (by rw [hc, e])), h.fg, h.fs, h.fq, fun c hc => by simpa [World.setCell] using h.lt c hc⟩, (Step.refl F w).set (p := ⟨b, k, none⟩) (h.fs b hb) _⟩
 have e : (d.safe.set k s).length = d.safe.length := List.length_set ..
 show World.ownsRow _ _ _ _ _ (d.safe.set k s).length _
 rw [e]
 exact so
theorem rewait (h : RefRaw W F g d vs vq) (l : List (Nat × ByteArray)) {v' : Value} (hown : w1.ownsRow 0 159 2 v' l.length (waitsV l))
   (hst : Step F F W w1) (hfar : ∀ b, b < W.heap.size → vq.ownBlock ≠ some b → w1.heap[b]? = W.heap[b]?) (hat : ∀ b, v'.ownBlock = some b → F b ∨ W.heap.size ≤ b) :
   RefRaw (w1.setCell ⟨g, 1, none⟩ v') (fun b => F b ∨ v'.ownBlock = some b) g { d with waits := l } vs v' ∧ Step F (fun b => F b ∨ v'.ownBlock = some b) W (w1.setCell ⟨g, 1, none⟩ v') := by
 have lt := h.lt
 have hh : Blk w1 g 69 (refCells vs vq d.gone (refFuse d.fuse)) := (hfar g (lt g h.fg) h.gq).trans h.head
 have hv : v'.ownBlock ≠ some g := own_blk hown hh (by decide)
 have set : ∀ b, b ≠ g → (w1.setCell ⟨g, 1, none⟩ v').heap[b]? = w1.heap[b]? := fun b hb => heap_setCell_other w1 ⟨g, 1, none⟩ b _ hb
 have hs2 : Step F (fun b => F b ∨ v'.ownBlock = some b) W w1 := ⟨hst.os, hst.tape, hst.output, hst.size, hst.block, fun b hb => hb.elim .inl (hat b)⟩
 refine ⟨⟨hh.set 1 v', ?_, ?_, .inl h.fg, fun b hb => .inl (h.fs b hb), fun b hb => .inr hb, fun b hb => ?_⟩, hs2.set (p := ⟨g, 1, none⟩) (.inl h.fg) _⟩
 · exact own_keep h.safe fun b hb => (set b (fun e => h.gs (by rw [hb, e]))).trans (hfar b (lt b (h.fs b hb)) (h.sq hb))
 · exact own_keep (w' := w1.setCell ⟨g, 1, none⟩ v') hown fun b hb => set b (fun e => hv (by rw [hb, e]))
 · show b < (w1.setCell _ _).heap.size
   rcases hb with hb | hb
   · have := lt b hb; have := hst.size; simp [World.setCell]; omega
   · have := (hown.lt b hb).2; simpa [World.setCell] using this
theorem dropped (h : RefRaw w F g d vs vq) : RefRaw (w.setCell ⟨g, 1, none⟩ (.slice none 0 0)) F g { d with waits := [] } vs (.slice none 0 0) ∧ Step F F w (w.setCell ⟨g, 1, none⟩ (.slice none 0 0)) := by
 obtain ⟨r, _⟩ := h.rewait (v' := .slice none 0 0) [] (World.ownsRow_nil _ _ _ _) (Step.refl F w) (fun _ _ _ => rfl) (fun b hb => by simp [Value.ownBlock] at hb)
 exact ⟨⟨r.head, r.safe, r.wait, h.fg, h.fs, fun b hb => by simp [Value.ownBlock] at hb, fun b hb => r.lt b (.inl hb)⟩, (Step.refl F w).set (p := ⟨g, 1, none⟩) h.fg _⟩
end RefRaw
namespace IsRef
variable {w w' : World} {F F' F2 F2' : Foot} {g : Nat} {d : Dk}
theorem keep (h : IsRef w F g d) (hk : ∀ b, F b → w'.heap[b]? = w.heap[b]?) (hs : w.heap.size ≤ w'.heap.size) : IsRef w' F g d := by
 obtain ⟨vs, vq, r⟩ := h
 exact ⟨vs, vq, r.keep hk hs⟩
theorem below (h : IsRef w F g d) (hb : Below w.heap.size w w') : IsRef w' F g d := by
 obtain ⟨vs, vq, r⟩ := h
 exact ⟨vs, vq, r.below hb⟩
theorem lt (h : IsRef w F g d) : ∀ b, F b → b < w.heap.size := by obtain ⟨_, _, r⟩ := h; exact r.lt
end IsRef
section
variable {w : World} {F : Foot} {g : Nat} {d : Dk}
set_option maxRecDepth 100000 in
set_option maxHeartbeats 1000000 in
theorem refZero_any (w : World) : Calls Tryz.prog 38 #[] w fun e w' => e = .returned (.string zero128) ∧ Below w.heap.size w w' := by
 obtain ⟨i, hi, hz, hs1, hs2⟩ := info_parts (show (Tryz.prog.info? 5).map (fun i => (i.zero, i.size, i.bytes)) = some (some (.int .u8 0), 1, 1) from by kernel_rfl)
 have hmk : ∀ W : World, (Instr.makeSlice 136 (.int .i64 128) (.int .i64 128)).run Tryz.prog W = .ok (.slice (some ⟨W.heap.size, 0, none⟩) 128 128) (W.alloc (.cells (bytesV (fullL 0)) 5)) := fun W => by
   have h := run_make (P := Tryz.prog) W 136 5 i (.int .u8 0) Tryz.underlying136 hi hz .i64 .i64 128 128 (by omega) (by omega) (by rw [hs2]; omega) (by omega)
   have e : madeCells (Value.int .u8 0).cells ((128 : Int).toNat * i.size) = bytesV (fullL 0) := by
     rw [hs1]
     apply Array.ext'
     rw [show (Value.int .u8 0).cells = #[Value.int .u8 0] from rfl, toList_madeCells_one]
     simp [bytesV, fullL]
   rw [e] at h
   simpa using h
 have hcv := conv_blk (Blk.new w 5 (bytesV (fullL 0))) 0 128 128 (by simp [fullL]) 136 5 9 Tryz.underlying136 Tryz.underlying5 Tryz.underlying9
 rw [List.drop_zero, List.take_of_length_le (by simp [fullL])] at hcv
 go_enter Tryz.func38, Tryz.ntmps38
 go_wp2
 go_ret
 exact ⟨rfl, (Below.refl _ _).alloc (Nat.le_refl _) _⟩
theorem ref_set {v : Value} {i : Nat} (hg : F g) : Step F F w (w.setCell ⟨g, i, none⟩ v) := (Step.refl F w).set (p := ⟨g, i, none⟩) hg v
set_option maxRecDepth 100000 in
set_option maxHeartbeats 1000000 in
theorem borne_any (h : IsRef w F g d) (hfl : ∀ f, d.fuse = some f → f < 9223372036854775808) (b : Bool) (hb : b = d.bears) :
   Calls Tryz.prog 120 #[.pointer (some ⟨g, 0, none⟩)] w fun e w' => e = .returned (.bool b) ∧ IsRef w' F g d.burn ∧ Step F F w w' := by
 obtain ⟨vs, vq, r⟩ := h
 obtain ⟨_, _, c2, c3⟩ := r.cells
 have f2 := r.frozen 2
 have f3 := r.frozen 3
 have hsg := fun v i => @ref_set w F g v i r.fg
 obtain ⟨safe, waits, gone, fuse⟩ := d
 cases gone with
 | true =>
   obtain rfl : b = false := hb
   have hd : IsRef (w.setCell ⟨g, 2, none⟩ (.bool true)) F g (Dk.mk safe waits true fuse).burn := by
     have e : (Dk.mk safe waits true fuse).burn = Dk.mk safe waits true fuse := by cases fuse <;> rfl
     rw [e]
     exact ⟨vs, vq, r.set1 2 (.bool true) (gone := true) (k := fuse) rfl⟩
   have HD := Lib.hid hd
   have HS := Lib.hid (hsg (.bool true) 2)
   clear hd r hsg hfl
   go_enter Tryz.func120, Tryz.ntmps120
   go_wp2
   go_ret
   exact ⟨rfl, HD.out, HS.out⟩
 | false =>
   cases fuse with
   | none =>
     obtain rfl : b = true := hb
     have hd : IsRef w F g (Dk.mk safe waits false none).burn := ⟨vs, vq, r⟩
     have HD := Lib.hid hd
     change w.cell? _ = some (.int .i64 (-1)) at c3
     clear hd r hsg hfl
     go_enter Tryz.func120, Tryz.ntmps120
     go_wp2
     go_ret
     exact ⟨rfl, HD.out, Step.refl _ _⟩
   | some f =>
     cases f with
     | zero =>
       obtain rfl : b = false := hb
       have hd : IsRef (w.setCell ⟨g, 2, none⟩ (.bool true)) F g (Dk.mk safe waits false (some 0)).burn :=
         ⟨vs, vq, r.set1 2 (.bool true) (gone := true) (k := some 0) rfl⟩
       have HD := Lib.hid hd
       have HS := Lib.hid (hsg (.bool true) 2)
       change w.cell? _ = some (.int .i64 0) at c3
       clear hd r hsg hfl
       go_enter Tryz.func120, Tryz.ntmps120
       go_wp2
       go_ret
       exact ⟨rfl, HD.out, HS.out⟩
     | succ f =>
       obtain rfl : b = true := hb
       change w.cell? _ = some (.int .i64 ((f + 1 : Nat) : Int)) at c3
       have hlt := hfl (f + 1) rfl
       have e5 : (((f + 1 : Nat) : Int) == 0) = false := by rw [beq_eq_false_iff_ne]; omega
       have e6 : decide ((0 : Int) < ((f + 1 : Nat) : Int)) = true := by simp
       have e7 : (0 : Int) < ((f + 1 : Nat) : Int) := by omega
       have ew : IntKind.i64.wrap (((f + 1 : Nat) : Int) - 1) = (f : Int) := by rw [IntKind.wrap_i64]; omega
       have hd : IsRef (w.setCell ⟨g, 3, none⟩ (.int .i64 (f : Int))) F g (Dk.mk safe waits false (some (f + 1))).burn :=
         ⟨vs, vq, r.set1 3 (.int .i64 (f : Int)) (gone := false) (k := some f) rfl⟩
       have HD := Lib.hid hd
       have HS := Lib.hid (hsg (.int .i64 (f : Int)) 3)
       generalize ((f + 1 : Nat) : Int) = x at *
       generalize (f : Int) = y at *
       clear hd r hsg hlt hfl
       go_enter Tryz.func120, Tryz.ntmps120
       go_wp2
       go_ret
       exact ⟨rfl, HD.out, HS.out⟩
end
end Go.Proofs.YtbplgbkbggmaeaaGreat

namespace Go.Proofs.YtbplgbkbggmaeaaGreat
open Go.RowKit
theorem info_refwrite : (Tryz.prog.info? 159).map (fun i => (i.zero, i.size, i.bytes)) = some (some (.agg #[.int .i64 0, .string ⟨#[]⟩]), 2, 24) := by kernel_rfl
section
variable {w : World} {F : Foot} {g : Nat} {d : Dk}
set_option maxRecDepth 100000 in
set_option maxHeartbeats 4000000 in
theorem refWrite_ok (ho : d.Ok) (h : IsRef w F g d) (k : Nat) (s : ByteArray) (hi : d.has k) (hs : s.size = 128) (hbear : d.bears = true) (hl : d.waits.length < 16777216) :
   Calls Tryz.prog 96 #[.pointer (some ⟨g, 0, none⟩), .int .i64 k, .string s] w fun e w' => e = .returned (.int .i64 0) ∧ ∃ F', IsRef w' F' g { d.burn with waits := d.waits ++ [(k, s)] } ∧ Step F F' w w' := by
 obtain ⟨i0, hi0, hz0, hz1, hz2⟩ := info_parts info_refwrite
 have H2 := Lib.hid (borne_any h ho.fuse true hbear.symm)
 have hne : ((s.size : Int) != 128) = false := by simp [hs]
 have hk0 : decide ((k : Int) < 0) = false := by simp
 have hk1 : decide (d.safe.length ≤ k) = false := by have := hi.2; simp; omega
 have hk1 : ¬ d.safe.length ≤ k := by simpa using hk1
 have hbw := Dk.burn_waits d
 rw [← hbw] at hl
 have HW := Lib.hid hbw
 obtain ⟨vs, vq, r⟩ := h
 obtain ⟨b, cap, rfl, hcap⟩ := own_head ho r.safe
 obtain ⟨c0, _⟩ := r.cells
 have hn := ho.le
 generalize d.safe.length = n at *
 generalize hB : d.burn = D at *
 have HB := Lib.hid hB
 clear hi hs hbear hbw hB r ho
 go_enter Tryz.func96, Tryz.ntmps96
 go_wp2_with fail
 refine H2.out.mono ?_
 rintro e w1 ⟨rfl, ⟨vs, vq, r1⟩, hs1⟩
 have rW := r1.below ((Below.refl _ _).alloc (Nat.le_refl _) (.cells #[.int .i64 (k : Int), .string s] 159))
 obtain ⟨_, c1, _⟩ := r1.cells
 have f1 := rW.frozen 1
 have lg := r1.lt g r1.fg
 have lg2 := rW.lt g rW.fg
 have hown := rW.wait
 have nq := rW.gq
 have RW := Lib.hid rW
 have HS1 := Lib.hid hs1
 clear r1 rW hs1
 go_wp2_with (at_builtin; refine wpList_append_own_at _ rfl (.tmp 28) (.tmp 32) 67 rfl 0 159 i0 (.agg #[.int .i64 0, .string ⟨#[]⟩]) 2 24 Tryz.underlying67 hi0 hz0 hz1 hz2 rfl (by decide) vq _ _ rfl hown ⟨w1.heap.size, 0, none⟩ 1 1 [.int .i64 k, .string s] rfl rfl (World.news_of_block (cs := #[.int .i64 k, .string s]) (t := 159) (fr := (0, 0)) (heap_alloc_new w1 _)) (by simp [Value.oneCell']) (by simp only [maxLen]; omega) (by omega) (Nat.zero_le _) ?_)
 intro v' w3 hown3 hgrow _ hat
 have hfar : ∀ b, b < (w1.alloc (.cells #[.int .i64 (k : Int), .string s] 159)).heap.size → vq.ownBlock ≠ some b → w3.heap[b]? = (w1.alloc (.cells #[.int .i64 (k : Int), .string s] 159)).heap[b]? := fun b hb hne => hgrow.block b hb (Ne.symm hne)
 obtain ⟨r3, s3⟩ := RW.out.rewait (v' := v') (D.waits ++ [(k, s)]) (by rw [List.length_append, waitsV_snoc]; exact hown3) ((Step.refl F _).grown hgrow RW.out.fq) hfar (fun b hb => by
   rcases hat with e | e
   · rw [e] at hb; exact .inl (RW.out.fq b hb)
   · rw [e] at hb; cases hb; exact .inr (by simp))
 have hfin : IsRef (w3.setCell ⟨g, 1, none⟩ v') (fun b => F b ∨ v'.ownBlock = some b) g { D with waits := d.waits ++ [(k, s)] } := by rw [← HW.out]; exact ⟨_, _, r3⟩
 have R3 := Lib.hid hfin
 have S3 := Lib.hid ((HS1.out.alloc (.cells #[.int .i64 (k : Int), .string s] 159)).trans s3)
 have f3 := (hgrow.frozen_far ⟨g, 1, none⟩ lg2 (Ne.symm nq)).trans f1
 have c3 := (hgrow.cell_far ⟨g, 1, none⟩ lg2 (Ne.symm nq)).trans (RW.out.cells).2.1
 obtain ⟨gg, cap, hv, _⟩ := own_len hown3
 subst hv
 clear r3 s3 hfin hown3 hgrow hat hfar hown f1 c1
 go_wp2
 go_ret
 exact ⟨rfl, _, R3.out, S3.out⟩
set_option maxRecDepth 100000 in
set_option maxHeartbeats 1000000 in
theorem refWrite_range (ho : d.Ok) (h : IsRef w F g d) (i : Int) (s : ByteArray) (hi : ¬ d.has i) :
   Calls Tryz.prog 96 #[.pointer (some ⟨g, 0, none⟩), .int .i64 i, .string s] w fun e w' => e = .returned (.int .i64 2) ∧ w = w' := by
 obtain ⟨vs, vq, r⟩ := h
 obtain ⟨b, cap, rfl, hcap⟩ := own_head ho r.safe
 obtain ⟨c0, _⟩ := r.cells
 have hn := ho.le
 unfold Dk.has at hi
 generalize d.safe.length = n at *
 clear r ho
 by_cases h0 : i < 0
 · have hk0 : decide (i < 0) = true := by simpa using h0
   clear hi h0
   go_enter Tryz.func96, Tryz.ntmps96
   go_wp2
   go_ret
   exact ⟨rfl, rfl⟩
 · have hk0 : decide (i < 0) = false := by simpa using h0
   have hk1 : decide ((n : Int) ≤ i) = true := by simp; omega
   clear hi h0
   go_enter Tryz.func96, Tryz.ntmps96
   go_wp2
   go_ret
   exact ⟨rfl, rfl⟩
set_option maxRecDepth 100000 in
set_option maxHeartbeats 1000000 in
theorem refWrite_size (ho : d.Ok) (h : IsRef w F g d) (i : Int) (s : ByteArray) (hi : d.has i) (hs : s.size ≠ 128) :
   Calls Tryz.prog 96 #[.pointer (some ⟨g, 0, none⟩), .int .i64 i, .string s] w fun e w' => e = .returned (.int .i64 1) ∧ w = w' := by
 have hne : ((s.size : Int) != 128) = true := by simp; omega
 obtain ⟨vs, vq, r⟩ := h
 obtain ⟨b, cap, rfl, hcap⟩ := own_head ho r.safe
 obtain ⟨c0, _⟩ := r.cells
 have hn := ho.le
 have hk0 : decide (i < 0) = false := by have := hi.1; simp; omega
 have hk1 : decide ((d.safe.length : Int) ≤ i) = false := by have := hi.2; simp; omega
 clear r ho hi hs
 go_enter Tryz.func96, Tryz.ntmps96
 go_wp2
 go_ret
 exact ⟨rfl, rfl⟩
set_option maxRecDepth 100000 in
set_option maxHeartbeats 1000000 in
theorem refWrite_dead (ho : d.Ok) (h : IsRef w F g d) (i : Int) (s : ByteArray) (hi : d.has i) (hs : s.size = 128) (hb : d.bears = false) :
   Calls Tryz.prog 96 #[.pointer (some ⟨g, 0, none⟩), .int .i64 i, .string s] w fun e w' => e = .returned (.int .i64 4) ∧ IsRef w' F g d.burn ∧ Step F F w w' := by
 have hne : ((s.size : Int) != 128) = false := by simp [hs]
 have H2 := Lib.hid (borne_any h ho.fuse false hb.symm)
 obtain ⟨vs, vq, r⟩ := h
 obtain ⟨b, cap, rfl, hcap⟩ := own_head ho r.safe
 obtain ⟨c0, _⟩ := r.cells
 have hn := ho.le
 have hk0 : decide (i < 0) = false := by have := hi.1; simp; omega
 have hk1 : decide ((d.safe.length : Int) ≤ i) = false := by have := hi.2; simp; omega
 clear r ho hi hs hb
 go_enter Tryz.func96, Tryz.ntmps96
 go_wp2_with fail
 refine H2.out.mono ?_
 rintro e w1 ⟨rfl, hd, hs⟩
 go_wp2
 go_ret
 exact ⟨rfl, hd, hs⟩
theorem refWrite_any (ho : d.Ok) (h : IsRef w F g d) (i : Int) (s : ByteArray) (hl : d.waits.length < 16777216) :
   Calls Tryz.prog 96 #[.pointer (some ⟨g, 0, none⟩), .int .i64 i, .string s] w fun e w' => e = .returned (.int .i64 (d.writeE i s)) ∧ ∃ F', IsRef w' F' g (d.write i s) ∧ Step F F' w w' := by
 unfold Dk.writeE Dk.write
 by_cases hi : d.has i
 · rw [if_pos hi, if_pos hi]
   by_cases hs : s.size = 128
   · rw [if_pos hs, if_pos hs]
     cases hb : d.bears with
     | true =>
       obtain ⟨k, rfl⟩ := Int.eq_ofNat_of_zero_le hi.1
       exact refWrite_ok ho h k s hi hs hb hl
     | false => exact (refWrite_dead ho h i s hi hs hb).mono fun e w' k => ⟨k.1, F, k.2⟩
   · rw [if_neg hs, if_neg hs]
     exact (refWrite_size ho h i s hi hs).mono fun e w' ⟨k1, k2⟩ => ⟨k1, F, k2 ▸ h, k2 ▸ Step.refl F w⟩
 · rw [if_neg hi, if_neg hi]
   exact (refWrite_range ho h i s hi).mono fun e w' ⟨k1, k2⟩ => ⟨k1, F, k2 ▸ h, k2 ▸ Step.refl F w⟩
end
end Go.Proofs.YtbplgbkbggmaeaaGreat

namespace Go.Proofs.YtbplgbkbggmaeaaGreat
open Go.RowKit
section
variable {w : World} {F : Foot} {g : Nat} {d : Dk}
theorem part_one (d : Dk) (f : Nat → Nat) (k : Nat) (hk : k < d.waits.length) (n : Nat) (hn : f k = n) : d.part f (k + 1) = { d.part f k with safe := settleOne n (d.waits[k].1, d.waits[k].2) (d.part f k).safe } := by
 unfold Dk.part
 rw [settleTo_succ _ _ _ _ hk, hn]
set_option maxRecDepth 100000 in
set_option maxHeartbeats 4000000 in
theorem refSync_ok (ho : d.Ok) (h : IsRef w F g d) (hbear : d.bears = true) :
   Calls Tryz.prog 98 #[.pointer (some ⟨g, 0, none⟩)] w fun e w' => e = .returned (.int .i64 0) ∧ IsRef w' F g d.sync ∧ Step F F w w' := by
 have H2 := Lib.hid (borne_any h ho.fuse true hbear.symm)
 have hsync : d.sync = { d.burn.part (fun _ => 1) d.burn.waits.length with waits := [] } := by
   unfold Dk.sync Dk.part Dk.settled
   rw [if_pos hbear, Dk.burn_waits, Dk.burn_safe]
 rw [hsync]
 have ho := ho.burn
 clear hsync hbear h
 generalize d.burn = D at *
 have hn := ho.le
 have hin : ∀ k (hk : k < D.waits.length), D.waits[k].1 < D.safe.length := fun k hk => (ho.wait _ (List.getElem_mem hk)).1
 have HIN := Lib.hid hin
 have HO := Lib.hid ho
 clear hin ho
 have hlen : ∀ k, (D.part (fun _ => 1) k).safe.length = D.safe.length := fun k => settleTo_len _ _ _ _
 have HL := Lib.hid hlen
 clear hlen
 go_enter Tryz.func98, Tryz.ntmps98
 go_wp2_with fail
 refine H2.out.mono ?_
 rintro e w1 ⟨rfl, ⟨vs, vq, r⟩, s1⟩
 obtain ⟨b, cap, rfl, hcap⟩ := own_head HO.out r.safe
 obtain ⟨qa, capq, rfl, hqm⟩ : ∃ qa capq, vq = .slice qa D.waits.length capq ∧ D.waits.length ≤ 9223372036854775807 := by
   rcases own_any r.wait with ⟨rfl, h0, _⟩ | ⟨q, capq, rfl, hq, hqm⟩
   · exact ⟨none, 0, by rw [h0], by omega⟩
   · exact ⟨_, capq, rfl, by unfold maxLen at hqm; omega⟩
 have HR : Hid (RefRaw w1 F g (D.part (fun _ => 1) 0) (.slice (some ⟨b, 0, none⟩) D.safe.length cap) (.slice qa D.waits.length capq)) := r
 have HS1 := Lib.hid s1
 clear r s1
 go_wp2
 go_loopw [3] (fun i wr => ∃ k : Nat, k ≤ D.waits.length ∧ i = .int .i64 k ∧ RefRaw wr F g (D.part (fun _ => 1) k) (.slice (some ⟨b, 0, none⟩) D.safe.length cap) (.slice qa D.waits.length capq) ∧ Step F F w1 wr) (fun i _ => D.waits.length - (intOf i).toNat)
 case atStart => exact ⟨0, Nat.zero_le _, rfl, HR.out, Step.refl _ _⟩
 case round =>
   obtain ⟨k, hk, rfl, hr, hst⟩ := hrel
   obtain ⟨c0, c1, _⟩ := hr.cells
   by_cases hlt : k < D.waits.length
   · have hkl := hlt
     rcases own_any hr.wait with ⟨_, h0, _⟩ | ⟨q, capq', hqe, _, _⟩
     · exact absurd h0 (by show D.waits.length ≠ 0; omega)
     simp only [Value.slice.injEq] at hqe
     obtain ⟨rfl, _, rfl⟩ := hqe
     obtain ⟨e0, e1⟩ := waitsV_at D.waits k hkl
     have hw := hr.wait
     rw [show (D.part (fun _ => 1) k).waits = D.waits from rfl] at hw
     have q0 := (hw.cellAt (k * 2) (by omega)).trans e0
     have q1 := (hw.cellAt (k * 2 + 1) (by omega)).trans e1
     have hi := HIN.out k hkl
     have hx0 : (0 : Int) ≤ (D.waits[k].1 : Int) := Int.natCast_nonneg _
     have hx1 : (D.waits[k].1 : Int) < (D.safe.length : Int) := by omega
     have hpart := part_one D (fun _ => 1) k hkl 1 rfl
     generalize D.waits[k].1 = j at *
     generalize D.waits[k].2 = s at *
     have hl1 : (D.part (fun _ => 1) k).safe.length = D.safe.length := HL.out k
     have hsafe := hr.safe
     rw [hl1] at hsafe
     have e1 := hsafe.cellAt j (by omega)
     obtain ⟨u, hu⟩ : ∃ u, (strsV (D.part (fun _ => 1) k).safe)[j]? = some u := ⟨_, List.getElem?_eq_getElem (by rw [strsV_len, hl1]; exact hi)⟩
     rw [hu] at e1
     have f1 := hsafe.frozenAt j
     obtain ⟨r2, s2⟩ := hr.drew.stored hl1.symm j s
     have R2 : Hid (RefRaw (wr.drew.setCell ⟨b, j, none⟩ (.string s)) F g (D.part (fun _ => 1) (k + 1)) (.slice (some ⟨b, 0, none⟩) D.safe.length cap) (.slice (some ⟨q, 0, none⟩) D.waits.length capq)) := by rw [hpart]; exact r2
     have S2 := Lib.hid (hst.drew.trans s2)
     clear r2 s2 hpart hsafe hu hl1 hr hst hw e0
     go_wp2_with fail
     go_still_tail 21, (by kernel_rfl)
     go_wp2
     go_roundw
     case rel => exact ⟨k + 1, by omega, by go_num, R2.out, S2.out⟩
     case measure => simp [intOf]; omega
   · obtain rfl : k = D.waits.length := by omega
     obtain ⟨r2, s2⟩ := hr.dropped
     have hf : IsRef (wr.setCell ⟨g, 1, none⟩ (.slice none 0 0)) F g { D.part (fun _ => 1) D.waits.length with waits := [] } := ⟨_, _, r2⟩
     have R2 := Lib.hid hf
     have S2 := Lib.hid ((HS1.out.trans hst).trans s2)
     have f1 := hr.frozen 1
     clear r2 s2 hf hr hst
     go_wp2
     go_ret
     exact ⟨rfl, R2.out, S2.out⟩
set_option maxRecDepth 100000 in
set_option maxHeartbeats 1000000 in
theorem refSync_dead (ho : d.Ok) (h : IsRef w F g d) (hb : d.bears = false) :
   Calls Tryz.prog 98 #[.pointer (some ⟨g, 0, none⟩)] w fun e w' => e = .returned (.int .i64 4) ∧ IsRef w' F g d.burn ∧ Step F F w w' := by
 have H2 := Lib.hid (borne_any h ho.fuse false hb.symm)
 clear h hb ho
 go_enter Tryz.func98, Tryz.ntmps98
 go_wp2_with fail
 refine H2.out.mono ?_
 rintro e w1 ⟨rfl, hd, hs⟩
 go_wp2
 go_ret
 exact ⟨rfl, hd, hs⟩
theorem refSync_any (ho : d.Ok) (h : IsRef w F g d) :
   Calls Tryz.prog 98 #[.pointer (some ⟨g, 0, none⟩)] w fun e w' => e = .returned (.int .i64 d.syncE) ∧ IsRef w' F g d.sync ∧ Step F F w w' := by
 unfold Dk.syncE
 cases hb : d.bears with
 | true => exact refSync_ok ho h hb
 | false =>
   have e : d.sync = d.burn := by unfold Dk.sync; rw [hb]; rfl
   rw [e]
   exact refSync_dead ho h hb
end
end Go.Proofs.YtbplgbkbggmaeaaGreat

namespace Go.Proofs.YtbplgbkbggmaeaaGreat
open Go.RowKit
section
variable {w : World} {F : Foot} {g : Nat} {d : Dk}
end
end Go.Proofs.YtbplgbkbggmaeaaGreat

namespace Go.Proofs.YtbplgbkbggmaeaaGreat
open Go.RowKit
section
variable {w : World} {F : Foot} {g : Nat} {d : Dk}
theorem at_steps (d : Dk) (i : Int) : ∃ rd : Nat → ByteArray, rd 0 = d.safe.getD i.toNat zero128 ∧ (∀ k (h : k < d.waits.length), rd (k + 1) = if (d.waits[k].1 : Int) = i then d.waits[k].2 else rd k) ∧ rd d.waits.length = d.at_ i := by
 refine ⟨fun k => (lastOf (d.waits.take k) i).getD (d.safe.getD i.toNat zero128), rfl, fun k h => ?_, by simp only [List.take_length]; rfl⟩
 show (lastOf (d.waits.take (k + 1)) i).getD _ = _
 rw [List.take_add_one, List.getElem?_eq_getElem h]
 show (lastOf (d.waits.take k ++ [d.waits[k]]) i).getD _ = _
 rw [lastOf_snoc]
 split <;> rfl
set_option maxRecDepth 100000 in
set_option maxHeartbeats 4000000 in
theorem refRead_ok (ho : d.Ok) (h : IsRef w F g d) (k : Nat) (hi : d.has k) (hgone : d.gone = false) (s : ByteArray) (hs : d.at_ k = s) :
   Calls Tryz.prog 65 #[.pointer (some ⟨g, 0, none⟩), .int .i64 k] w fun e w' => e = .returned (.tuple #[.string s, .int .i64 0]) ∧ w = w' := by
 obtain ⟨rd, hr0, hr1, hr2⟩ := at_steps d k
 rw [hs] at hr2
 obtain ⟨vs, vq, r⟩ := h
 obtain ⟨b, cap, rfl, hcap⟩ := own_head ho r.safe
 obtain ⟨qa, capq, rfl, hqm⟩ : ∃ qa capq, vq = .slice qa d.waits.length capq ∧ d.waits.length ≤ 9223372036854775807 := by
   rcases own_any r.wait with ⟨rfl, h0, _⟩ | ⟨q, capq, rfl, hq, hqm⟩
   · exact ⟨none, 0, by rw [h0], by omega⟩
   · exact ⟨_, capq, rfl, by unfold maxLen at hqm; omega⟩
 have hn := ho.le
 obtain ⟨c0, c1, c2, _⟩ := r.cells
 rw [hgone] at c2
 have hk : k < d.safe.length := by have := hi.2; omega
 have cell := r.safe.cellAt k (by omega)
 have hx : (strsV d.safe)[k]? = some (.string (rd 0)) := by
   rw [hr0]
   unfold strsV
   rw [List.getElem?_map, List.getElem?_eq_getElem hk]
   simp [List.getD_eq_getElem?_getD, List.getElem?_eq_getElem hk]
 rw [hx] at cell
 have hk0 : (0 : Int) ≤ (k : Int) := Int.natCast_nonneg _
 have hk1 : (k : Int) < (d.safe.length : Int) := by omega
 have hk2 : ¬ d.safe.length ≤ k := by omega
 have HW := Lib.hid r.wait
 have HR1 := Lib.hid hr1
 have HR2 := Lib.hid hr2
 clear hx hr0 hr1 hr2 r ho hs hi hk
 go_enter Tryz.func65, Tryz.ntmps65
 go_wp2
 go_loopw [6, 7] (fun vx vk wr => ∃ j : Nat, j ≤ d.waits.length ∧ vk = .int .i64 j ∧ vx = .string (rd j) ∧ w = wr) (fun _ vk _ => d.waits.length - (intOf vk).toNat)
 case atStart => exact ⟨0, Nat.zero_le _, rfl, rfl, rfl⟩
 case round =>
   obtain ⟨j, hj, rfl, rfl, rfl⟩ := hrel
   by_cases hlt : j < d.waits.length
   · have hkl := hlt
     rcases own_any HW.out with ⟨_, h0, _⟩ | ⟨q, capq', hqe, _, _⟩
     · exact absurd h0 (by omega)
     simp only [Value.slice.injEq] at hqe
     obtain ⟨rfl, _, rfl⟩ := hqe
     obtain ⟨e0, e1⟩ := waitsV_at d.waits j hkl
     have q0 := (HW.out.cellAt (j * 2) (by omega)).trans e0
     have q1 := (HW.out.cellAt (j * 2 + 1) (by omega)).trans e1
     have hstep := HR1.out j hkl
     generalize d.waits[j].1 = x at *
     generalize d.waits[j].2 = s' at *
     by_cases hxk : (x : Int) = (k : Int)
     · rw [if_pos hxk] at hstep
       have hq : ((x : Int) == (k : Int)) = true := by simpa using hxk
       have hxn : x = k := by omega
       have HS := Lib.hid hstep
       clear hstep e0 e1
       go_wp2
       go_roundw
       case rel => exact ⟨j + 1, by omega, by go_num, by rw [HS.out], by first | rfl | trivial⟩
       case measure => simp [intOf]; omega
     · rw [if_neg hxk] at hstep
       have hq : ((x : Int) == (k : Int)) = false := by simpa using hxk
       have hxn : ¬ x = k := by omega
       have HS := Lib.hid hstep
       clear hstep e0 e1
       go_wp2
       go_roundw
       case rel => exact ⟨j + 1, by omega, by go_num, by rw [HS.out], by first | rfl | trivial⟩
       case measure => simp [intOf]; omega
   · obtain rfl : j = d.waits.length := by omega
     rw [HR2.out]
     go_wp2
     go_ret2
     exact ⟨rfl, rfl⟩
set_option maxRecDepth 100000 in
set_option maxHeartbeats 1000000 in
theorem refRead_no (ho : d.Ok) (h : IsRef w F g d) (i : Int) (hi : d.reachE i ≠ 0) :
   Calls Tryz.prog 65 #[.pointer (some ⟨g, 0, none⟩), .int .i64 i] w fun e w' => e = .returned (.tuple #[.string ⟨#[]⟩, .int .i64 (d.reachE i)]) ∧ w = w' := by
 obtain ⟨vs, vq, r⟩ := h
 obtain ⟨b, cap, rfl, hcap⟩ := own_head ho r.safe
 obtain ⟨c0, c1, c2, _⟩ := r.cells
 have hn := ho.le
 unfold Dk.reachE at hi ⊢
 cases hg : d.gone with
 | true =>
   rw [hg] at c2
   rw [if_pos rfl]
   clear hi hg ho r
   go_enter Tryz.func65, Tryz.ntmps65
   go_wp2
   go_ret2
   exact ⟨rfl, rfl⟩
 | false =>
   rw [hg] at hi c2
   by_cases hh : d.has i
   · rw [if_neg (by simp), if_pos hh] at hi; exact absurd rfl hi
   rw [if_neg (by simp), if_neg hh]
   unfold Dk.has at hh
   by_cases h0 : i < 0
   · have hk0 : decide (i < 0) = true := by simpa using h0
     clear hi hg hh h0 ho r
     go_enter Tryz.func65, Tryz.ntmps65
     go_wp2
     go_ret2
     exact ⟨rfl, rfl⟩
   · have hk0 : decide (i < 0) = false := by simpa using h0
     have hk1 : decide ((d.safe.length : Int) ≤ i) = true := by simp; omega
     clear hi hg hh h0 ho r
     go_enter Tryz.func65, Tryz.ntmps65
     go_wp2
     go_ret2
     exact ⟨rfl, rfl⟩
theorem refRead_any (ho : d.Ok) (h : IsRef w F g d) (i : Int) :
   Calls Tryz.prog 65 #[.pointer (some ⟨g, 0, none⟩), .int .i64 i] w fun e w' => e = .returned (.tuple #[.string (d.read i), .int .i64 (d.reachE i)]) ∧ w = w' := by
 unfold Dk.read
 by_cases hr : d.reachE i = 0
 · rw [if_pos hr, hr]
   unfold Dk.reachE at hr
   split at hr
   · cases hr
   · rename_i hg
     split at hr
     · rename_i hi
       obtain ⟨k, rfl⟩ := Int.eq_ofNat_of_zero_le hi.1
       exact refRead_ok ho h k hi (by simpa using hg) _ rfl
     · cases hr
 · rw [if_neg hr]
   exact refRead_no ho h i hr
end
end Go.Proofs.YtbplgbkbggmaeaaGreat

namespace Go.Proofs.YtbplgbkbggmaeaaGreat
open Go.RowKit
theorem RefRaw.resafe {W w1 : World} {F : Foot} {g : Nat} {d : Dk} {vs vq : Value} (h : RefRaw W F g d vs vq) (l : List ByteArray) {v' : Value} (hown : w1.ownsRow 0 9 1 v' l.length (strsV l))
   (hst : Step F F W w1) (hfar : ∀ b, b < W.heap.size → vs.ownBlock ≠ some b → w1.heap[b]? = W.heap[b]?) (hat : ∀ b, v'.ownBlock = some b → F b ∨ W.heap.size ≤ b) :
   RefRaw (w1.setCell ⟨g, 0, none⟩ v') (fun b => F b ∨ v'.ownBlock = some b) g { d with safe := l } v' vq ∧ Step F (fun b => F b ∨ v'.ownBlock = some b) W (w1.setCell ⟨g, 0, none⟩ v') := by
 have lt := h.lt
 have hh : Blk w1 g 69 (refCells vs vq d.gone (refFuse d.fuse)) := (hfar g (lt g h.fg) h.gs).trans h.head
 have hv : v'.ownBlock ≠ some g := own_blk hown hh (by decide)
 have set : ∀ b, b ≠ g → (w1.setCell ⟨g, 0, none⟩ v').heap[b]? = w1.heap[b]? := fun b hb => heap_setCell_other w1 ⟨g, 0, none⟩ b _ hb
 have hs2 : Step F (fun b => F b ∨ v'.ownBlock = some b) W w1 := ⟨hst.os, hst.tape, hst.output, hst.size, hst.block, fun b hb => hb.elim .inl (hat b)⟩
 refine ⟨⟨hh.set 0 v', ?_, ?_, .inl h.fg, fun b hb => .inr hb, fun b hb => .inl (h.fq b hb), fun b hb => ?_⟩, hs2.set (p := ⟨g, 0, none⟩) (.inl h.fg) _⟩
 · exact own_keep (w' := w1.setCell ⟨g, 0, none⟩ v') hown fun b hb => set b (fun e => hv (by rw [hb, e]))
 · exact own_keep h.wait fun b hb => (set b (fun e => h.gq (by rw [hb, e]))).trans (hfar b (lt b (h.fq b hb)) (fun e => h.sq e hb))
 · show b < (w1.setCell _ _).heap.size
   rcases hb with hb | hb
   · have := lt b hb; have := hst.size; simp [World.setCell]; omega
   · have := (hown.lt b hb).2; simpa [World.setCell] using this
def Dk.amid (k : Nat) : Dk := ⟨List.replicate k zero128, [], false, none⟩
theorem amid_len (k : Nat) : (Dk.amid k).safe.length = k := by simp [Dk.amid]
theorem amid_snoc (k : Nat) : List.replicate k zero128 ++ [zero128] = List.replicate (k + 1) zero128 := by rw [List.replicate_succ']
theorem ref_start (w : World) : RefRaw (w.alloc (.cells (refCells (.slice none 0 0) (.slice none 0 0) false (-1)) 69)) (fun b => b = w.heap.size) w.heap.size (Dk.amid 0) (.slice none 0 0) (.slice none 0 0) :=
 ⟨Blk.new _ _ _, World.ownsRow_nil _ _ _ _, World.ownsRow_nil _ _ _ _, rfl, fun b hb => by simp [Value.ownBlock] at hb, fun b hb => by simp [Value.ownBlock] at hb, fun b hb => by rw [hb]; simp⟩
set_option maxRecDepth 100000 in
set_option maxHeartbeats 8000000 in
theorem refNew_any (n : Nat) (w : World) (hn : n ≤ 500) :
   Calls Tryz.prog 5 #[.int .i64 n] w fun e w' => ∃ g F, e = .returned (.pointer (some ⟨g, 0, none⟩)) ∧ IsRef w' F g (Dk.new n) ∧ (∀ b, F b → w.heap.size ≤ b) ∧ Below w.heap.size w w' := by
 obtain ⟨i0, hi0, hz0, hz1, hz2⟩ := info_parts info_string
 have HS := Lib.hid (ref_start w)
 go_enter Tryz.func5, Tryz.ntmps5
 go_wp2
 go_loopw [4] (fun vk wr => ∃ (k : Nat) (F : Foot) (vs : Value), k ≤ n ∧ vk = .int .i64 k ∧ RefRaw wr F w.heap.size (Dk.amid k) vs (.slice none 0 0) ∧ (∀ b, F b → w.heap.size ≤ b) ∧ Below w.heap.size w wr) (fun vk _ => n - (intOf vk).toNat)
 case atStart => exact ⟨0, _, _, Nat.zero_le _, rfl, HS.out, fun b hb => by rw [hb]; exact Nat.le_refl _, (Below.refl _ _).alloc (Nat.le_refl _) _⟩
 case round =>
   obtain ⟨k, F, vs, hk, rfl, hr, hF, hb⟩ := hrel
   clear HS
   by_cases hlt : k < n
   · obtain ⟨va, vc, hvs⟩ := own_slice hr.safe
     rw [amid_len] at hvs
     subst hvs
     have HR := Lib.hid hr
     have HB := Lib.hid hb
     have HF := Lib.hid hF
     clear hr hb hF
     go_wp2_with fail
     refine' wp_region_free [0] 7 [.is (.pointer (some ⟨w.heap.size, 0, none⟩)), .is _, .is _, .is _, .is _, .is _, .slice wr.heap.size 1 9 #[.string zero128]] (by kernel_rfl) (by kernel_rfl) (by kernel_rfl) (by kernel_rfl) (by kernel_rfl) rfl ⟨rfl, trivial⟩ (fun _ _ _ _ _ h => h) ?main
     case main =>
       iterate 6
         refine obs_is (fun w5 hE2 _ => ?_) ?_
         · have r2 := HR.out.drew.below hE2
           obtain ⟨d0, _⟩ := r2.cells
           clear r2
           go_wp2_with (go_at_call 38; refine (refZero_any _).mono ?_; rintro e w3 ⟨rfl, hb3⟩)
           first | exact post_is hb3 | exact post_is (Below.refl _ _)
         simp only [Act.put, sA, sB, sC]
       refine obs_slice (fun w5 hE2 _ => ?_) (fun q => ?_)
       · go_wp2
         exact ⟨_, rfl, ⟨w5.heap.size, hE2.size, rfl, Blk.new _ _ _⟩, (Below.refl _ _).alloc (Nat.le_refl _) _⟩
       simp only [Act.put, sA, sB, sC]
       refine obs_end fun w5 hE3 hkn => ?_
       obtain ⟨g2, _, rfl, hb2⟩ := hkn _ (List.mem_cons_self)
       have r3 := HR.out.drew.below hE3
       have hB5 := Lib.hid (below2 HB.out.drew hE3)
       have hown := r3.safe
       have lg := r3.lt _ r3.fg
       have nq := r3.gs
       have c3 := r3.cells.1
       have f3 := r3.frozen 0
       have R3 := Lib.hid r3
       rw [amid_len] at hown
       clear r3 hkn
       go_wp2_with (at_builtin; refine wpList_append_own_at _ rfl (.tmp 16) (.tmp 18) 66 rfl 0 9 i0 (.string ⟨#[]⟩) 1 16 Tryz.underlying66 hi0 hz0 hz1 hz2 rfl (by decide) _ _ _ rfl hown ⟨g2, 0, none⟩ 1 1 [.string zero128] rfl rfl (World.news_of_block hb2) (by simp [Value.oneCell']) (by simp only [maxLen]; omega) (by omega) (Nat.zero_le _) ?_)
       intro v' w6 hown6 hgrow _ hat
       obtain ⟨r6, s6⟩ := R3.out.resafe (v' := v') (List.replicate (k + 1) zero128) (by
         rw [List.length_replicate, ← amid_snoc, show strsV (List.replicate k zero128 ++ [zero128]) = strsV (List.replicate k zero128) ++ [.string zero128] from by simp [strsV]]
         exact hown6) ((Step.refl F _).grown hgrow R3.out.fs) (fun b hb hne => hgrow.block b hb (Ne.symm hne)) (fun b hb => by
           rcases hat with e | e
           · rw [e] at hb; exact .inl (R3.out.fs b hb)
           · rw [e] at hb; cases hb; exact .inr (Nat.le_refl _))
       have hF6 : ∀ b, (F b ∨ v'.ownBlock = some b) → w.heap.size ≤ b := s6.from_ HF.out hB5.out.size
       have hB6 := s6.belowB HF.out hB5.out hB5.out.size
       have R6 := Lib.hid r6
       have HF6 := Lib.hid hF6
       have HB6 := Lib.hid hB6
       have f6 := (hgrow.frozen_far ⟨w.heap.size, 0, none⟩ lg (Ne.symm nq)).trans f3
       have c6 := (hgrow.cell_far ⟨w.heap.size, 0, none⟩ lg (Ne.symm nq)).trans c3
       obtain ⟨gg, cap, hv, _⟩ := own_len hown6
       subst hv
       clear r6 s6 hF6 hB6 hown6 hgrow hat hown c3 f3 hb2
       go_wp2
       go_roundw
       case rel => exact ⟨k + 1, _, _, by omega, by go_num, R6.out, HF6.out, HB6.out⟩
       case measure => simp [intOf]; omega
   · obtain rfl : k = n := by omega
     have HD : Hid (IsRef wr F w.heap.size (Dk.new k)) := ⟨_, _, hr⟩
     clear hr
     go_wp2
     go_ret
     exact ⟨_, _, rfl, HD.out, hF, hb⟩
end Go.Proofs.YtbplgbkbggmaeaaGreat
