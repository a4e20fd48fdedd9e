/- Texts that belong together, joined: RpF. -/
import Derived.Test.YtbplgbkbggmaeaaGreatKrefd
import Derived.Test.YtbplgbkbggmaeaaGreatKwal
namespace Go.Proofs.YtbplgbkbggmaeaaGreat
open Go.RowKit
def Wl.B (l : Wl) : List ByteArray := l.secs.map bodyS ++ if l.first = l.end_ then [(⟨#[]⟩ : ByteArray)] else []
theorem Wl.B_idle {l : Wl} (h : l.first = l.end_) : l.B = l.secs.map bodyS ++ [(⟨#[]⟩ : ByteArray)] := by unfold Wl.B; rw [if_pos h]
theorem Wl.B_open {l : Wl} (h : ¬ l.first = l.end_) : l.B = l.secs.map bodyS := by unfold Wl.B; rw [if_neg h, List.append_nil]
def rlogCells (gd : Nat) (l : Wl) (vb : Value) : Array Value := #[.pointer (some ⟨gd, 0, none⟩), .int .i64 l.base, .int .i64 l.size, .int .i64 l.low, .int .i64 l.first, .int .i64 l.epoch, vb]
structure RLR (w : World) (F : Foot) (g gd : Nat) (l : Wl) (vb : Value) (n : Nat) (bs : List ByteArray) : Prop where
 head : Blk w g 96 (rlogCells gd l vb)
 rows : w.ownsRow 0 9 1 vb n (strsV bs)
 fg : F g
 fv : ∀ b, vb.ownBlock = some b → F b
 lt : ∀ b, F b → b < w.heap.size
def IsRL (w : World) (F : Foot) (g gd : Nat) (l : Wl) : Prop := l.Ok ∧ ∃ vb, RLR w F g gd l vb l.B.length l.B
namespace RLR
variable {w w' : World} {F : Foot} {g gd : Nat} {l : Wl} {vb : Value} {n : Nat} {bs : List ByteArray}
theorem keep (h : RLR w F g gd l vb n bs) (hk : ∀ b, F b → w'.heap[b]? = w.heap[b]?) (hs : w.heap.size ≤ w'.heap.size) : RLR w' F g gd l vb n bs :=
 ⟨(hk g h.fg).trans h.head, own_keep h.rows fun b hb => hk b (h.fv b hb), h.fg, h.fv, fun b hb => Nat.lt_of_lt_of_le (h.lt b hb) hs⟩
theorem below (h : RLR w F g gd l vb n bs) (hb : Below w.heap.size w w') : RLR w' F g gd l vb n bs := h.keep (fun b hF => hb.block b (h.lt b hF)) hb.size
theorem cells (h : RLR w F g gd l vb n bs) : w.cell? ⟨g, 0, none⟩ = some (.pointer (some ⟨gd, 0, none⟩)) ∧ w.cell? ⟨g, 1, none⟩ = some (.int .i64 l.base) ∧ w.cell? ⟨g, 2, none⟩ = some (.int .i64 l.size) ∧ w.cell? ⟨g, 3, none⟩ = some (.int .i64 l.low) ∧
   w.cell? ⟨g, 4, none⟩ = some (.int .i64 l.first) ∧ w.cell? ⟨g, 5, none⟩ = some (.int .i64 l.epoch) ∧ w.cell? ⟨g, 6, none⟩ = some vb :=
 ⟨h.head.cell 0, h.head.cell 1, h.head.cell 2, h.head.cell 3, h.head.cell 4, h.head.cell 5, h.head.cell 6⟩
theorem vg (h : RLR w F g gd l vb n bs) : vb.ownBlock ≠ some g := own_blk h.rows h.head (by decide)
theorem stored {g2 cap : Nat} (h : RLR w F g gd l (.slice (some ⟨g2, 0, none⟩) n cap) n bs) (j : Nat) (s : ByteArray) :
   RLR (w.setCell ⟨g2, j, none⟩ (.string s)) F g gd l (.slice (some ⟨g2, 0, none⟩) n cap) n (bs.set j s) ∧ Step F F w (w.setCell ⟨g2, j, none⟩ (.string s)) := by
 have hb : (Value.slice (some ⟨g2, 0, none⟩) n cap).ownBlock = some g2 := rfl
 have so := (h.rows.stored j (.string s)).1
 rw [LogR.strsV_set'] at so
 exact ⟨⟨(heap_setCell_other w ⟨g2, j, none⟩ g _ fun e => h.vg (by rw [hb, e])).trans h.head, so, h.fg, h.fv, fun c hc => by simpa [World.setCell] using h.lt c hc⟩, (Step.refl F w).set (p := ⟨g2, j, none⟩) (h.fv g2 hb) _⟩
theorem pushed (h : RLR w F g gd l vb n bs) {gg cap : Nat} {s : ByteArray} (hown : w'.ownsRow 0 9 1 (.slice (some ⟨gg, 0, none⟩) (n + 1) cap) (n + 1) (strsV bs ++ [.string s])) (hg : w.grownBy w' vb.ownBlock) (hat : vb.ownBlock = some gg ∨ gg = w.heap.size) (hlt : gg < w'.heap.size) :
   RLR (w'.setCell ⟨g, 6, none⟩ (.slice (some ⟨gg, 0, none⟩) (n + 1) cap)) (fun b => F b ∨ b = gg) g gd l (.slice (some ⟨gg, 0, none⟩) (n + 1) cap) (n + 1) (bs ++ [s]) ∧ Step F (fun b => F b ∨ b = gg) w (w'.setCell ⟨g, 6, none⟩ (.slice (some ⟨gg, 0, none⟩) (n + 1) cap)) := by
 have hh : Blk w' g 96 (rlogCells gd l vb) := (hg.block g h.head.lt fun e => h.vg e.symm).trans h.head
 have hne : gg ≠ g := fun e => own_blk hown hh (by decide) (by rw [← e]; rfl)
 refine ⟨⟨hh.set 6 _, ?_, .inl h.fg, fun b hb => by simp only [Value.ownBlock, Option.some.injEq] at hb; exact .inr hb.symm, fun b hb => ?_⟩, ?_⟩
 · rw [show strsV (bs ++ [s]) = strsV bs ++ [.string s] by simp [strsV]]
   exact own_keep hown fun b hb => heap_setCell_other w' ⟨g, 6, none⟩ b _ fun e => by simp only [Value.ownBlock, Option.some.injEq] at hb; exact hne (by rw [hb, e])
 · have : b < w'.heap.size := by
     rcases hb with hb | rfl
     · exact Nat.lt_of_lt_of_le (h.lt b hb) hg.size
     · exact hlt
   simpa [World.setCell] using this
 · refine Step.set (w' := w') ?_ (p := ⟨g, 6, none⟩) (.inl h.fg) _
   exact ⟨hg.os, hg.tape, hg.output, hg.size, fun b hb hf => hg.block b hb fun e => hf (h.fv b e.symm), fun b hb => hb.elim .inl fun e => by
     subst e
     rcases hat with hat | hat
     · exact .inl (h.fv b hat)
     · exact .inr (by omega)⟩
theorem setFirst (h : RLR w F g gd l vb n bs) (x : Nat) :
   RLR (w.setCell ⟨g, 4, none⟩ (.int .i64 x)) F g gd { l with first := x } vb n bs ∧ Step F F w (w.setCell ⟨g, 4, none⟩ (.int .i64 x)) :=
 ⟨⟨h.head.set 4 _, own_keep h.rows fun b hb => heap_setCell_other w ⟨g, 4, none⟩ b _ fun e => h.vg (by rw [hb, e]), h.fg, h.fv, fun c hc => by simpa [World.setCell] using h.lt c hc⟩, (Step.refl F w).set (p := ⟨g, 4, none⟩) h.fg _⟩
end RLR
theorem IsRL.below {w w' : World} {F : Foot} {g gd : Nat} {l : Wl} (h : IsRL w F g gd l) (hb : Below w.heap.size w w') : IsRL w' F g gd l := ⟨h.1, h.2.elim fun vb r => ⟨vb, r.below hb⟩⟩
theorem IsRL.lt {w : World} {F : Foot} {g gd : Nat} {l : Wl} (h : IsRL w F g gd l) : ∀ b, F b → b < w.heap.size := h.2.elim fun _ r => r.lt
theorem IsRL.keep {w w' : World} {F : Foot} {g gd : Nat} {l : Wl} (h : IsRL w F g gd l) (hk : ∀ b, F b → w'.heap[b]? = w.heap[b]?) (hs : w.heap.size ≤ w'.heap.size) : IsRL w' F g gd l := ⟨h.1, h.2.elim fun vb r => ⟨vb, r.keep hk hs⟩⟩
section
variable {w : World} {F : Foot} {g gd : Nat} {l : Wl} {vb : Value} {n : Nat} {bs : List ByteArray}
set_option maxRecDepth 100000 in
set_option maxHeartbeats 2000000 in
theorem rlOpen_any (h : RLR w F g gd l vb (n + 1) bs) (hl : l.low ≤ 2147483647) (hn : n ≤ 65) : Calls Tryz.prog 54 #[.pointer (some ⟨g, 0, none⟩)] w (Peeks w (.int .i64 ((l.low + n : Nat) : Int))) := by
 obtain ⟨va, vc, hvs⟩ := own_slice h.rows
 subst hvs
 obtain ⟨_, _, _, c3, _, _, c6⟩ := h.cells
 have h1 : (l.low : Int) ≤ 2147483647 := by omega
 have h2 : (n : Int) + 1 ≤ 66 := by omega
 have e : ((l.low + n : Nat) : Int) = (l.low : Int) + ((n : Int) + 1) - 1 := by omega
 rw [e]
 clear h e hl hn
 generalize l.low = x at *
 go_enter Tryz.func54, Tryz.ntmps54
 go_wp2
 go_quiet (fail)
 go_wp2
 go_ret
 exact ⟨rfl, _, rfl⟩
set_option maxRecDepth 100000 in
set_option maxHeartbeats 4000000 in
theorem rlMay_any {D : Dk} {FD : Foot} (h : IsRef w FD gd D) (ok : D.Ok) (base n : Nat) (hb : base ≤ 512) (yes : Bool) (hy : yes = decide (8 ≤ n ∧ n ≤ 64 ∧ base + n ≤ D.safe.length)) :
   Calls Tryz.prog 41 #[.pointer (some ⟨gd, 0, none⟩), .int .i64 base, .int .i64 n] w fun e w' => e = .returned (.bool yes) ∧ w = w' := by
 obtain ⟨vs, vq, r⟩ := h
 obtain ⟨b, cap, rfl, hcap⟩ := own_head ok r.safe
 obtain ⟨c0, _⟩ := r.cells
 have hle := ok.le
 have hlI : (D.safe.length : Int) ≤ 512 := by omega
 have hbI : (base : Int) ≤ 512 := by omega
 clear r hcap ok
 generalize D.safe.length = m at *
 by_cases h8 : 8 ≤ n
 · have h8I : (8 : Int) ≤ n := by omega
   have d8 : decide (8 ≤ n) = true := by simp [h8]
   by_cases h64 : n ≤ 64
   · have h64I : (n : Int) ≤ 64 := by omega
     have d64 : decide (n ≤ 64) = true := by simp [h64]
     by_cases hr : base + n ≤ m
     · obtain rfl : yes = true := by rw [hy]; simp [h8, h64, hr]
       have hrI : (base : Int) ≤ (m : Int) - n := by omega
       clear hy h8 h64 hr hle
       go_enter Tryz.func41, Tryz.ntmps41
       go_wp2
       go_ret
       exact ⟨by simp, rfl⟩
     · obtain rfl : yes = false := by rw [hy]; simp [hr]
       have hrI : ¬ (base : Int) ≤ (m : Int) - n := by omega
       clear hy h8 h64 hr hle
       go_enter Tryz.func41, Tryz.ntmps41
       go_wp2
       go_ret
       exact ⟨by simp, rfl⟩
   · obtain rfl : yes = false := by rw [hy]; simp [h64]
     have h64I : ¬ (n : Int) ≤ 64 := by omega
     clear hy h8 hle
     go_enter Tryz.func41, Tryz.ntmps41
     go_wp2
     go_ret
     exact ⟨by simp, rfl⟩
 · obtain rfl : yes = false := by rw [hy]; simp [h8]
   have h8I : ¬ (8 : Int) ≤ n := by omega
   clear hy hle
   go_enter Tryz.func41, Tryz.ntmps41
   go_wp2
   go_ret
   exact ⟨by simp, rfl⟩
end
end Go.Proofs.YtbplgbkbggmaeaaGreat
