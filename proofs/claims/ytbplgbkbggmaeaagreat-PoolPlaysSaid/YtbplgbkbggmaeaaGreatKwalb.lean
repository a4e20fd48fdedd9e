/- Texts that belong together, joined: WalE, EntQ, RecAll, WalF, WalG, WlC, WlD, WalH, WalI, WalJ, Few, RecM2, WalK, WlE. -/
import Derived.Test.YtbplgbkbggmaeaaGreatKwal
import Derived.Test.YtbplgbkbggmaeaaGreatKdisk
import Derived.Test.YtbplgbkbggmaeaaGreatKent
import Derived.Test.YtbplgbkbggmaeaaGreatKrece
import Derived.Deep.AppendLies
import Derived.WalkMore
import Derived.IntWalk
import Derived.Deep.LoopGhost
import Derived.Test.YtbplgbkbggmaeaaGreatKrec
namespace Go.Proofs.YtbplgbkbggmaeaaGreat
open Go.RowKit
section
variable {w : World} {FD FL : Foot} {g gd : Nat} {D : Dk} {l : Wl}
set_option maxRecDepth 100000 in
set_option maxHeartbeats 2000000 in
theorem logNew_ok (h : IsDisk w FD gd D) (base n : Nat) (h8 : 8 ≤ n) (h64 : n ≤ 64) (hb : base + n ≤ D.safe.length) :
   Calls Tryz.prog 36 #[.pointer (some ⟨gd, 0, none⟩), .int .i64 base, .int .i64 n] w fun e w' => ∃ g, e = .returned (.tuple #[.pointer (some ⟨g, 0, none⟩), .int .i64 0]) ∧ IsLog w' (· = g) g gd (Wl.new base n) ∧ w.heap.size ≤ g ∧ Below w.heap.size w w' := by
 have H1 := Lib.hid (size_any h)
 have hs := h.1.le
 have hok := Wl.Ok.new h8 h64 (by omega : base + n ≤ 512)
 have HOK := Lib.hid hok
 have a8 : (8 : Int) ≤ n := by omega
 have a64 : (n : Int) ≤ 64 := by omega
 have a0 : (base : Int) ≤ 512 := by omega
 have a5 : (D.safe.length : Int) ≤ 512 := by omega
 have hcmp : (base : Int) ≤ (D.safe.length : Int) - n := by omega
 have t1 : decide ((n : Int) < 8) = false := by simp; omega
 have t2 : decide ((64 : Int) < n) = false := by simp; omega
 have t3 : decide ((base : Int) < 0) = false := by simp
 clear h hok h8 h64 hb hs
 generalize D.safe.length = m at *
 go_enter Tryz.func36, Tryz.ntmps36
 go_wp2_with fail
 refine H1.out.mono ?_
 rintro e w1 ⟨rfl, rfl⟩
 go_wp2
 go_ret2
 refine ⟨w.heap.size, rfl, ⟨HOK.out, .slice none 0 0, ?_⟩, Nat.le_refl _, (Below.refl _ _).alloc (Nat.le_refl _) _⟩
 exact ⟨Blk.new w 112 (logCells gd (Wl.new base n) (.slice none 0 0)), World.ownsRow_nil _ _ _ _, rfl, fun b hb => by simp [Value.ownBlock] at hb, fun b hb => by subst hb; simp⟩
open Classical in
end
end Go.Proofs.YtbplgbkbggmaeaaGreat

namespace Go.Proofs.YtbplgbkbggmaeaaGreat
open Go.RowKit
structure Qe where
 at_ : Int
 r : Rc
 vt : Value
 vp : Value
namespace OwnE
variable {w w' : World} {B : Nat} {v : Value} {q : List Qe}
end OwnE
end Go.Proofs.YtbplgbkbggmaeaaGreat

namespace Go.Proofs.YtbplgbkbggmaeaaGreat
open Go.RowKit
def FreshQ (B : Nat) (q : List Qe) : Prop := ∀ x ∈ q, (rows3 x.r.txns ≠ [] → ∀ b, x.vt.ownBlock = some b → B ≤ b) ∧ (rows2 x.r.pages ≠ [] → ∀ b, x.vp.ownBlock = some b → B ≤ b)
end Go.Proofs.YtbplgbkbggmaeaaGreat

namespace Go.Proofs.YtbplgbkbggmaeaaGreat
open Go.RowKit
end Go.Proofs.YtbplgbkbggmaeaaGreat

namespace Go.Proofs.YtbplgbkbggmaeaaGreat
open Go.RowKit
section
variable {w : World} {FD : Foot} {gd : Nat} {D : Dk}
end
end Go.Proofs.YtbplgbkbggmaeaaGreat

namespace Go.Proofs.YtbplgbkbggmaeaaGreat
open Go.RowKit
namespace Stands
variable {D : Dk} {l : Wl}
end Stands
end Go.Proofs.YtbplgbkbggmaeaaGreat

namespace Go.Proofs.YtbplgbkbggmaeaaGreat
open Go.RowKit
namespace Stands
variable {D : Dk} {l : Wl}
end Stands
namespace Stands
variable {D : Dk} {l : Wl}
end Stands
end Go.Proofs.YtbplgbkbggmaeaaGreat

namespace Go.Proofs.YtbplgbkbggmaeaaGreat
open Go.RowKit
theorem FreshQ.base {B B' : Nat} {q : List Qe} (h : FreshQ B q) (hb : B' ≤ B) : FreshQ B' q := fun x hx => ⟨fun hr b hv => Nat.le_trans hb ((h x hx).1 hr b hv), fun hr b hv => Nat.le_trans hb ((h x hx).2 hr b hv)⟩
section
variable {w : World} {F : Foot} {g gd : Nat} {l : Wl}
end
end Go.Proofs.YtbplgbkbggmaeaaGreat

namespace Go.Proofs.YtbplgbkbggmaeaaGreat
open Go.RowKit
namespace Wl
def rest (l : Wl) (from_ : Int) (k : Nat) : List Ent := (allFrom k (l.secs.drop (k - l.low))).filter fun x => decide (from_ ≤ x.1)
end Wl
section
variable {w : World} {F : Foot} {g gd : Nat} {l : Wl}
end
end Go.Proofs.YtbplgbkbggmaeaaGreat

namespace Go.Proofs.YtbplgbkbggmaeaaGreat
open Go.RowKit
section
variable {w : World} {F : Foot} {g gd : Nat} {l : Wl}
end
end Go.Proofs.YtbplgbkbggmaeaaGreat

namespace Go.Proofs.YtbplgbkbggmaeaaGreat
open Go.RowKit
theorem fit_iff (r : Rc) : Fit r ↔ (r.before.size ≤ 300 ∧ r.after.size ≤ 300 ∧ r.txns.length ≤ 50 ∧ r.pages.length ≤ 50) := ⟨fun h => ⟨h.before, h.after, h.txns, h.pages⟩, fun h => ⟨h.1, h.2.1, h.2.2.1, h.2.2.2⟩⟩
set_option maxRecDepth 100000 in
set_option maxHeartbeats 4000000 in
theorem few_yes {w : World} {v : Value} {r : Rc} (hv : IsRec w v r) (hf : Fit r) :
   Calls Tryz.prog 40 #[v] w fun e w' => e = .returned (.bool true) ∧ Below w.heap.size w w' := by
 obtain ⟨vt, vp, rfl, hl⟩ := hv
 obtain ⟨ta, tc, e⟩ := hl.t.form
 subst e
 obtain ⟨pa, pc, e⟩ := hl.p.form
 subst e
 obtain ⟨f1, f2, f3, f4⟩ := hf
 have g1 : (r.before.size : Int) ≤ 300 := by omega
 have g2 : (r.after.size : Int) ≤ 300 := by omega
 have g3 : (r.txns.length : Int) ≤ 50 := by omega
 have g4 : (r.pages.length : Int) ≤ 50 := by omega
 clear hl
 unfold recV recCells
 go_enter Tryz.func40, Tryz.ntmps40
 go_wp2
 go_ret
 exact ⟨rfl, (Below.refl _ _).alloc (Nat.le_refl _) _⟩
set_option maxRecDepth 100000 in
set_option maxHeartbeats 4000000 in
theorem few_no {w : World} {v : Value} {r : Rc} (hv : IsRec w v r) (hs : r.before.size ≤ maxLen ∧ r.after.size ≤ maxLen) (hf : ¬ Fit r) :
   Calls Tryz.prog 40 #[v] w fun e w' => e = .returned (.bool false) ∧ Below w.heap.size w w' := by
 obtain ⟨vt, vp, rfl, hl⟩ := hv
 obtain ⟨ta, tc, e⟩ := hl.t.form
 subst e
 obtain ⟨pa, pc, e⟩ := hl.p.form
 subst e
 rw [fit_iff] at hf
 have HF := Lib.hid hf
 have h3 := hl.t.le
 have h4 := hl.p.le
 obtain ⟨h1, h2⟩ := hs
 unfold maxLen at h1 h2 h3 h4
 clear hl hf
 unfold recV recCells
 go_enter Tryz.func40, Tryz.ntmps40
 go_wp2
 all_goals first
   | (go_ret; exact ⟨rfl, (Below.refl _ _).alloc (Nat.le_refl _) _⟩)
   | (go_ret; have hff := HF.out; refine ⟨?_, (Below.refl _ _).alloc (Nat.le_refl _) _⟩; show Ending.returned (.bool (decide _)) = _; rw [decide_eq_false (by omega)])
end Go.Proofs.YtbplgbkbggmaeaaGreat

namespace Go.Proofs.YtbplgbkbggmaeaaGreat
open Go.RowKit
end Go.Proofs.YtbplgbkbggmaeaaGreat

namespace Go.Proofs.YtbplgbkbggmaeaaGreat
open Go.RowKit
noncomputable def Wl.app (l : Wl) (r : Rc) : Nat × Nat × Wl := open Classical in if May r then (l.putAt r, l.putE r, l.put r) else (0, 1, l)
theorem Wl.app_may {l : Wl} {r : Rc} (h : May r) : l.app r = (l.putAt r, l.putE r, l.put r) := by unfold Wl.app; rw [if_pos h]
theorem Wl.app_not {l : Wl} {r : Rc} (h : ¬ May r) : l.app r = (0, 1, l) := by unfold Wl.app; rw [if_neg h]
theorem append_may {w : World} {F : Foot} {g gd : Nat} {l : Wl} {v : Value} {r : Rc} (h : IsLog w F g gd l) (hv : IsRec w v r) (hm : May r) :
   Calls Tryz.prog 19 #[.pointer (some ⟨g, 0, none⟩), v] w (AppOut w F g gd (l.putAt r) (l.putE r) (l.put r)) := by
 unfold Wl.putE
 by_cases hj : l.joins r
 · rw [if_pos hj]; exact append_join h hv hm hj
 · rw [if_neg hj]
   by_cases hr : l.secs.length < l.size
   · rw [if_pos hr]
     by_cases hne : l.end_ = l.first
     · exact append_new1 h hv hm hj hne hr
     · exact append_new2 h hv hm hj hne hr
   · rw [if_neg hr]
     by_cases hne : l.end_ = l.first
     · exact append_full1 h hv hm hj hne hr
     · exact append_full2 h hv hm hj hne hr
theorem append_any {w : World} {F : Foot} {g gd : Nat} {l : Wl} {v : Value} {r : Rc} (h : IsLog w F g gd l) (hv : IsRec w v r) (hf : Fit r) :
   Calls Tryz.prog 19 #[.pointer (some ⟨g, 0, none⟩), v] w (AppOut w F g gd (l.app r).1 (l.app r).2.1 (l.app r).2.2) := by
 by_cases hm : May r
 · rw [Wl.app_may hm]; exact append_may h hv hm
 · rw [Wl.app_not hm]; exact append_bad h hv hf hm
namespace LiveL
variable {w0 w w' : World} {FD FL FD' FL' : Foot} {g gd : Nat} {D D' : Dk} {l l' : Wl}
end LiveL
end Go.Proofs.YtbplgbkbggmaeaaGreat

namespace Go.Proofs.YtbplgbkbggmaeaaGreat
open Go.RowKit
namespace Calm
variable {D : Dk} {l : Wl} {n E : Nat}
end Calm
end Go.Proofs.YtbplgbkbggmaeaaGreat
