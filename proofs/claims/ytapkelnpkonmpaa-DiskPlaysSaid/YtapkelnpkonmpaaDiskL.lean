/- careenlaw03: a sector full of a byte; a disk that the law made itself, call by call; what the document fixes. -/
import Derived.Test.YtapkelnpkonmpaaDiskK
namespace Go.Proofs.Ytapkelnpkonmpaa
open Go.RowKit

def fullL (c : UInt8) : List UInt8 := List.replicate 128 c
def fullS (c : UInt8) : ByteArray := ⟨(fullL c).toArray⟩
theorem fullS_size (c : UInt8) : (fullS c).size = 128 := by simp [fullS, fullL, ByteArray.size]
theorem fullS_zero : fullS 0 = zero128 := rfl
theorem fullS_inj {a b : UInt8} (h : fullS a = fullS b) : a = b := by
  have := congrArg (fun s : ByteArray => s.data.toList.head?) h
  simpa [fullS, fullL, List.replicate] using this
def partL (c : UInt8) (k : Nat) : List UInt8 := List.replicate k c ++ List.replicate (128 - k) 0
theorem partL_len (c : UInt8) (k : Nat) (h : k ≤ 128) : (partL c k).length = 128 := by simp [partL]; omega
theorem partL_set (c : UInt8) (k : Nat) (h : k < 128) : (partL c k).set k c = partL c (k + 1) := by
  unfold partL
  rw [List.set_append_right _ _ (by simp), List.length_replicate, Nat.sub_self, show 128 - k = (128 - (k + 1)) + 1 from by omega, List.replicate_succ, List.set_cons_zero, List.replicate_succ' (n := k)]
  simp
theorem partL_all (c : UInt8) : partL c 128 = fullL c := by simp [partL, fullL]
theorem partL_none (c : UInt8) : partL c 0 = List.replicate 128 0 := by simp [partL]

set_option maxRecDepth 100000 in
set_option maxHeartbeats 1000000 in
theorem full_aux (c : UInt8) (x : Int) (hx : x = (c.toNat : Int)) (w : World) :
    Calls Try.prog 13 #[.int .u8 x] w fun e w' => e = .returned (.string (fullS c)) ∧ Below w.heap.size w w' := by
  obtain ⟨i, hi, hz, hs1, hs2⟩ := info_parts (show (Try.prog.info? 5).map (fun i => (i.zero, i.size, i.bytes)) = some (some (.int .u8 0), 1, 1) from by kernel_rfl)
  have hmk : ∀ W : World, (Instr.makeSlice 31 (.int .i64 128) (.int .i64 128)).run Try.prog W = .ok (.slice (some ⟨W.heap.size, 0, none⟩) 128 128) (W.alloc (.cells (bytesV (partL c 0)) 5)) := fun W => by
    have h := run_make (P := Try.prog) W 31 5 i (.int .u8 0) Try.underlying31 hi hz .i64 .i64 128 128 (by omega) (by omega) (by rw [hs2]; omega) (by omega)
    have e : madeCells (Value.int .u8 0).cells ((128 : Int).toNat * i.size) = bytesV (partL c 0) := by
      rw [hs1, partL_none]
      apply Array.ext'
      rw [show (Value.int .u8 0).cells = #[Value.int .u8 0] from rfl, toList_madeCells_one]
      simp [bytesV]
    rw [e] at h
    simpa using h
  have hV : (Value.int .u8 x) = .int .u8 (c.toNat : Int) := by rw [hx]
  rw [hV]
  have hBx : ∀ k, k < 128 → (bytesV (partL c k)).setIfInBounds k (.int .u8 (c.toNat : Int)) = bytesV (partL c (k + 1)) := fun k hk => by rw [bytesV_set, partL_set c k hk]
  have HB := Lib.hid hBx
  have b0 := Blk.new w 5 (bytesV (partL c 0))
  have B0 := Lib.hid b0
  clear hBx hV hx b0
  generalize (c.toNat : Int) = y at *
  go_enter Try.func13, Try.ntmps13
  go_wp2
  go_loopw [8] (fun v wr => ∃ k : Nat, k ≤ 128 ∧ v = .int .i64 k ∧ Blk wr w.heap.size 5 (bytesV (partL c k)) ∧ Below w.heap.size w wr) (fun v _ => 128 - (intOf v).toNat)
  case atStart => exact ⟨0, by omega, rfl, B0.out, (Below.refl _ _).alloc (Nat.le_refl _) _⟩
  case round =>
    obtain ⟨k, hk, rfl, hb, hB⟩ := hrel
    by_cases hlt : k < 128
    · have hc := hb.cellAt (i := k) (by rw [bytesV_size, partL_len c k hk]; exact hlt)
      have hf := hb.frozen k
      have hn := hb.set k (.int .u8 y)
      rw [HB.out k hlt] at hn
      have HN := Lib.hid hn
      have HBL := Lib.hid (hB.setCell (p := ⟨w.heap.size, k, none⟩) (Nat.le_refl _) (.int .u8 y))
      clear hn hb hB
      go_wp2
      go_roundw
      case rel => exact ⟨k + 1, by omega, by go_num, HN.out, HBL.out⟩
      case measure => simp [intOf]; omega
    · obtain rfl : k = 128 := by omega
      have hcv := conv_blk hb 0 128 128 (by rw [partL_len c 128 hk]; omega) 31 5 9 Try.underlying31 Try.underlying5 Try.underlying9
      rw [partL_all, List.drop_zero, List.take_of_length_le (by simp [fullL])] at hcv
      clear hb
      go_wp2
      go_ret
      exact ⟨rfl, hB⟩
theorem full_any (c : UInt8) (w : World) : Calls Try.prog 13 #[.int .u8 (c.toNat : Int)] w fun e w' => e = .returned (.string (fullS c)) ∧ Below w.heap.size w w' := full_aux c _ rfl w

/-- A disk that was made since w0. -/
structure Live (w0 w : World) (F : Foot) (g : Nat) (d : Dk) : Prop where
  disk : IsDisk w F g d
  new : ∀ b, F b → w0.heap.size ≤ b
  below : Below w0.heap.size w0 w
namespace Live
variable {w0 w w' : World} {F F' : Foot} {g : Nat} {d d' : Dk}
theorem step (h : Live w0 w F g d) (hd : IsDisk w' F' g d') (hs : Step F F' w w') : Live w0 w' F' g d' :=
  ⟨hd, hs.from_ h.new h.below.size, hs.belowB h.new h.below h.below.size⟩
theorem more (h : Live w0 w F g d) (hb : Below w.heap.size w w') : Live w0 w' F g d := ⟨h.disk.below hb, h.new, h.below.trans (hb.mono h.below.size)⟩
theorem drew (h : Live w0 w F g d) : Live w0 w.drew F g d := ⟨h.disk.drew, h.new, h.below.drew⟩
theorem make (n : Nat) (h1 : 1 ≤ n) (hn : n ≤ 512) (h : Below w0.heap.size w0 w) :
    Calls Try.prog 9 #[.int .i64 n] w fun e w' => ∃ g F, e = .returned (.tuple #[.pointer (some ⟨g, 0, none⟩), .int .i64 0]) ∧ Live w0 w' F g (Dk.new n) :=
  (new_ok n w h1 hn).mono fun _ _ ⟨g, F, he, hd, hF, hb⟩ => ⟨g, F, he, hd, fun b hb => Nat.le_trans h.size (hF b hb), h.trans (hb.mono h.size)⟩
theorem write (h : Live w0 w F g d) (i : Int) (s : ByteArray) (hl : d.waits.length < 16777216) (e0 : Nat) (he : d.writeE i s = e0) (hd : d.write i s = d') :
    Calls Try.prog 14 #[.pointer (some ⟨g, 0, none⟩), .int .i64 i, .string s] w fun e w' => e = .returned (.int .i64 e0) ∧ ∃ F', Live w0 w' F' g d' := by
  subst he; subst hd
  exact (write_any h.disk i s hl).mono fun e w' ⟨he, F', k1, k2⟩ => ⟨he, F', h.step k1 k2⟩
theorem sync (h : Live w0 w F g d) (e0 : Nat) (he : d.syncE = e0) (hd : d.sync = d') :
    Calls Try.prog 16 #[.pointer (some ⟨g, 0, none⟩)] w fun e w' => e = .returned (.int .i64 e0) ∧ ∃ F', Live w0 w' F' g d' := by
  subst he; subst hd
  exact (sync_any h.disk).mono fun e w' ⟨he, k1, k2⟩ => ⟨he, F, h.step k1 k2⟩
theorem crash (h : Live w0 w F g d) (v : Value) (p : List UInt8) (hr : Reads w v (byteVs p)) (hv : p ≠ [] → ∀ b, v.ownBlock = some b → ¬ F b) (hd : d.crash p = d') :
    Calls Try.prog 19 #[.pointer (some ⟨g, 0, none⟩), v] w fun e w' => e = .returned (.tuple #[]) ∧ ∃ F', Live w0 w' F' g d' := by
  subst hd
  exact (crash_any h.disk v p hr hv).mono fun e w' ⟨he, k1, k2⟩ => ⟨he, F, h.step k1 k2⟩
theorem arm (h : Live w0 w F g d) (k : Int) (hk : k < 9223372036854775808) (hd : d.arm k = d') :
    Calls Try.prog 18 #[.pointer (some ⟨g, 0, none⟩), .int .i64 k] w fun e w' => e = .returned (.tuple #[]) ∧ ∃ F', Live w0 w' F' g d' := by
  subst hd
  exact (arm_any h.disk k hk).mono fun e w' ⟨he, k1, k2⟩ => ⟨he, F, h.step k1 k2⟩
theorem read (h : Live w0 w F g d) (i : Int) (e0 : Nat) (he : d.reachE i = e0) (s : ByteArray) (hs : d.read i = s) :
    Calls Try.prog 27 #[.pointer (some ⟨g, 0, none⟩), .int .i64 i] w fun e w' => e = .returned (.tuple #[.string s, .int .i64 e0]) ∧ Live w0 w' F g d := by
  subst he; subst hs
  exact (read_any h.disk i).mono fun e w' ⟨he, k⟩ => ⟨he, h.more k⟩
theorem dead (h : Live w0 w F g d) (b : Bool) (hb : d.gone = b) : Calls Try.prog 24 #[.pointer (some ⟨g, 0, none⟩)] w fun e w' => e = .returned (.bool b) ∧ w = w' := by subst hb; exact dead_any h.disk
theorem waiting (h : Live w0 w F g d) (n : Nat) (hn : d.waits.length = n) : Calls Try.prog 25 #[.pointer (some ⟨g, 0, none⟩)] w fun e w' => e = .returned (.int .i64 n) ∧ w = w' := by subst hn; exact waiting_any h.disk
end Live
end Go.Proofs.Ytapkelnpkonmpaa
