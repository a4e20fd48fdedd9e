/- A disk that was made since a world: its calls' contracts; between calls, what its sectors say. -/
import Derived.Test.YtbjpnkjddfpmpaaMaB
import Derived.Test.YtbjpnkjddfpmpaaDiskG
import Derived.Test.YtbjpnkjddfpmpaaDiskH
import Derived.Test.YtbjpnkjddfpmpaaDiskJ
namespace Go.Proofs.Ytbjpnkjddfpmpaa
open Go.RowKit

structure LiveD (w0 w : World) (F : Foot) (g : Nat) (D : Dk) : Prop where
  disk : IsDisk w F g D
  new : ∀ b, F b → w0.heap.size ≤ b
  below : Below w0.heap.size w0 w
namespace LiveD
variable {w0 w w' : World} {F F' : Foot} {g : Nat} {D D' : Dk}
theorem more (h : LiveD w0 w F g D) (hb : Below w.heap.size w w') : LiveD w0 w' F g D := ⟨h.disk.below hb, h.new, h.below.trans (hb.mono h.below.size)⟩
theorem step (h : LiveD w0 w F g D) (hd : IsDisk w' F' g D') (st : Step F F' w w') : LiveD w0 w' F' g D' := ⟨hd, fun b hb => (st.foot b hb).elim (h.new b) fun k => Nat.le_trans h.below.size k, st.belowB h.new h.below h.below.size⟩
theorem read (h : LiveD w0 w F g D) (i : Int) :
    Calls Try.prog 15 #[.pointer (some ⟨g, 0, none⟩), .int .i64 i] w fun e w' => e = .returned (.tuple #[.string (D.read i), .int .i64 (D.reachE i)]) ∧ LiveD w0 w' F g D ∧ Below w.heap.size w w' :=
  (read_any h.disk i).mono fun _ _ ⟨he, hb⟩ => ⟨he, h.more hb, hb⟩
theorem write (h : LiveD w0 w F g D) (i : Int) (s : ByteArray) (hl : D.waits.length < 16777216) :
    Calls Try.prog 25 #[.pointer (some ⟨g, 0, none⟩), .int .i64 i, .string s] w fun e w' => e = .returned (.int .i64 (D.writeE i s)) ∧ ∃ F', LiveD w0 w' F' g (D.write i s) ∧ Step F F' w w' :=
  (write_any h.disk i s hl).mono fun _ _ ⟨he, F', hd, st⟩ => ⟨he, F', h.step hd st, st⟩
theorem sync (h : LiveD w0 w F g D) :
    Calls Try.prog 26 #[.pointer (some ⟨g, 0, none⟩)] w fun e w' => e = .returned (.int .i64 D.syncE) ∧ LiveD w0 w' F g D.sync ∧ Step F F w w' :=
  (sync_any h.disk).mono fun _ _ ⟨he, hd, st⟩ => ⟨he, h.step hd st, st⟩
theorem arm (h : LiveD w0 w F g D) (k : Int) (hk : k < 9223372036854775808) :
    Calls Try.prog 12 #[.pointer (some ⟨g, 0, none⟩), .int .i64 k] w fun e w' => e = .returned (.tuple #[]) ∧ LiveD w0 w' F g (D.arm k) ∧ Step F F w w' :=
  (arm_any h.disk k hk).mono fun _ _ ⟨he, hd, st⟩ => ⟨he, h.step hd st, st⟩
theorem crash (h : LiveD w0 w F g D) (v : Value) (p : List UInt8) (hr : Reads w v (byteVs p)) (hv : p ≠ [] → ∀ b, v.ownBlock = some b → b < w0.heap.size) :
    Calls Try.prog 14 #[.pointer (some ⟨g, 0, none⟩), v] w fun e w' => e = .returned (.tuple #[]) ∧ LiveD w0 w' F g (D.crash p) ∧ Step F F w w' :=
  (crash_any h.disk v p hr fun hp b hb hF => by have := hv hp b hb; have := h.new b hF; omega).mono fun _ _ ⟨he, hd, st⟩ => ⟨he, h.step hd st, st⟩
theorem lose (h : LiveD w0 w F g D) (i : Int) :
    Calls Try.prog 16 #[.pointer (some ⟨g, 0, none⟩), .int .i64 i] w fun e w' => e = .returned (.int .i64 (D.reachE i)) ∧ LiveD w0 w' F g (D.lose i) ∧ Step F F w w' :=
  (lose_any h.disk i).mono fun _ _ ⟨he, hd, st⟩ => ⟨he, h.step hd st, st⟩
theorem made (hb : Below w0.heap.size w0 w) (n : Nat) (h1 : 1 ≤ n) (hn : n ≤ 512) :
    Calls Try.prog 7 #[.int .i64 n] w fun e w' => ∃ g F, e = .returned (.tuple #[.pointer (some ⟨g, 0, none⟩), .int .i64 0]) ∧ LiveD w0 w' F g (Dk.new n) ∧ Below w.heap.size w w' :=
  (new_ok n w h1 hn).mono fun _ _ ⟨g, F, he, hd, hF, hbel⟩ => ⟨g, F, he, ⟨hd, fun b hb' => Nat.le_trans hb.size (hF b hb'), hb.trans (hbel.mono hb.size)⟩, hbel⟩
end LiveD

/-- What master's Write does with the disk, in its two steps. -/
theorem wr_bad {D : Dk} {b : Int} {t : Nat} {m : Ms} (h : ¬ (m.May ∧ Cd.fits D b)) : cdM.writeE D b t m = 1 ∧ cdM.write D b t m = D := ⟨if_neg h, if_neg h⟩
theorem wr_dead {D : Dk} {b : Int} {t : Nat} {m : Ms} (hm : m.May) (hf : Cd.fits D b) (hb : D.bears = false) :
    D.writeE (Cd.side b t) (encM t m) = 4 ∧ cdM.writeE D b t m = 4 ∧ cdM.write D b t m = D.write (Cd.side b t) (encM t m) := by
  have hn : ¬ D.bears = true := by rw [hb]; decide
  refine ⟨?_, ?_, ?_⟩
  · have := cdM.writeE_disk (t := t) (m := m) hf
    rw [if_neg hn] at this
    exact this
  · unfold Cd.writeE; rw [if_pos ⟨hm, hf⟩, if_neg hn]
  · unfold Cd.write; rw [if_pos ⟨hm, hf⟩, if_neg hn]; rfl
theorem wr_borne {D : Dk} {b : Int} {t : Nat} {m : Ms} (hm : m.May) (hf : Cd.fits D b) (hb : D.bears = true) :
    D.writeE (Cd.side b t) (encM t m) = 0 ∧ cdM.writeE D b t m = (D.write (Cd.side b t) (encM t m)).syncE ∧ cdM.write D b t m = (D.write (Cd.side b t) (encM t m)).sync := by
  refine ⟨?_, ?_, ?_⟩
  · have := cdM.writeE_disk (t := t) (m := m) hf
    rw [if_pos hb] at this
    exact this
  · unfold Cd.writeE; rw [if_pos ⟨hm, hf⟩, if_pos hb]; rfl
  · unfold Cd.write; rw [if_pos ⟨hm, hf⟩, if_pos hb]; rfl
/-- What master's Read meets: both sectors, where the power is there. -/
theorem rd_gone {D : Dk} {b : Int} (hf : Cd.fits D b) (hg : D.gone = true) : D.reachE b = 4 ∧ D.reachE (b + 1) = 4 ∧ Cd.readE D b = 4 := by
  refine ⟨?_, ?_, ?_⟩
  · unfold Dk.reachE; rw [if_pos hg]
  · unfold Dk.reachE; rw [if_pos hg]
  · unfold Cd.readE; rw [if_pos hf, if_pos hg]
theorem rd_there {D : Dk} {b : Int} (hf : Cd.fits D b) (hg : D.gone = false) : D.reachE b = 0 ∧ D.reachE (b + 1) = 0 ∧ Cd.readE D b = 0 ∧ D.read b = D.at_ b ∧ D.read (b + 1) = D.at_ (b + 1) := by
  have hn : ¬ D.gone = true := by rw [hg]; decide
  have h0 : D.has b := ⟨hf.1, by have := hf.2; omega⟩
  have h1 : D.has (b + 1) := ⟨by have := hf.1; omega, hf.2⟩
  have r0 : D.reachE b = 0 := by unfold Dk.reachE; rw [if_neg hn, if_pos h0]
  have r1 : D.reachE (b + 1) = 0 := by unfold Dk.reachE; rw [if_neg hn, if_pos h1]
  exact ⟨r0, r1, by unfold Cd.readE; rw [if_pos hf, if_neg hn], by unfold Dk.read; rw [if_pos r0], by unfold Dk.read; rw [if_pos r1]⟩
/-- Few writes wait behind few calls: a write's sector lets in one. -/
theorem rest_waits {D : Dk} (h : Cd.Rest D) (k : Int) : (D.arm k).waits.length < 16777216 ∧ D.waits.length < 16777216 := by
  have : (D.arm k).waits = D.waits := rfl
  rw [this, h.waits]
  exact ⟨by decide, by decide⟩
end Go.Proofs.Ytbjpnkjddfpmpaa
