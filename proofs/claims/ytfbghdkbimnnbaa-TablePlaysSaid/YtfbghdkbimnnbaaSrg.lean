/- Rows of transactions that are sorted by their numbers: the function that compares; slices.SortFunc of none, and of four at most. -/
import Derived.Test.YtfbghdkbimnnbaaSrf
import Derived.Test.YtfbghdkbimnnbaaFoot
namespace Go.Proofs.Ytfbghdkbimnnbaa
open Go.RowKit Go.Lib Go.Sort Go.Shelf

/-- A row as cells. -/
def rwEnc (p : Int × Int × Int) : List Value := [.int .i64 p.1, .int .i64 p.2.1, .int .i64 p.2.2]
def rwCmp (x y : Int × Int × Int) : Int := Lib.compareInt x.1 y.1
set_option maxHeartbeats 1000000 in
theorem srgCmp (x y : Int × Int × Int) (W : World) : Calls Try.prog 32 #[.agg #[.int .i64 x.1, .int .i64 x.2.1, .int .i64 x.2.2], .agg #[.int .i64 y.1, .int .i64 y.2.1, .int .i64 y.2.2]] W fun e w' => e = .returned (.int .i64 (Lib.compareInt x.1 y.1)) ∧ ∃ q os', w' = grow (W.drewN q) os' := by
  have hcon := fun W' => AnyG.cmp_Compare_int srfCmp x.1 y.1 W'
  change ∀ W', Calls Try.prog 33 _ _ _ at hcon
  generalize Lib.compareInt x.1 y.1 = r at hcon ⊢
  go_enter Try.func32, Try.ntmps32
  go_wp2_with (go_at_call 33; refine (hcon _).mono ?_; rintro e w' ⟨rfl, rfl⟩)
  go_ret
  exact ⟨rfl, 0, _, by rw [alloc_eq_grow, alloc_eq_grow, grow_grow]; rfl⟩
theorem srgLays (blk off size : Nat) (w : World) : CmpLays Try.prog 32 #[] rwEnc 3 rwCmp blk off size w := fun _ _ _ _ x y => srgCmp x y _
theorem srgLt (x y : Int × Int × Int) : ltOf rwCmp x y = decide (x.1 < y.1) := by
  unfold ltOf rwCmp Lib.compareInt
  by_cases h1 : x.1 < y.1
  · simp [h1]
  · by_cases h2 : y.1 < x.1 <;> simp [h1, h2]
theorem srgSwo : SWO (ltOf rwCmp) where
  irrefl x := by rw [srgLt]; simp
  trans x y z h1 h2 := by rw [srgLt] at *; simp at *; omega
  ntrans x y z h1 h2 := by rw [srgLt] at *; simp at *; omega
theorem srgLen (n : Nat) (W : World) (h : n ≤ 12) : Calls Try.prog 35 #[.int .u64 n] W fun e w' => (∃ l : Int, e = .returned (.int .i64 l)) ∧ w' = W :=
  (Any.bits_Len srfLen n W (by omega) (by omega)).mono fun _ _ ⟨he, hw⟩ => ⟨⟨_, he⟩, hw⟩
theorem srgRow : ∀ w, (isAgg 46).run Try.prog w = .ok true w := fun w => by kernel_rfl
theorem srgSize : ∀ w, (Go.sizeOf 46).run Try.prog w = .ok 3 w := fun w => by kernel_rfl
theorem srgSort (blk off cap : Nat) (d : Array (Int × Int × Int)) (w : World) (hH : HoldsK rwEnc 3 w blk off d) (hblk : blk < w.heap.size) (h12 : d.size ≤ 12) :
    Calls Try.prog 31 #[.slice (some ⟨blk, off, none⟩) d.size cap, .func (.func 32) #[] #[]] w fun e w' => e = .returned (.tuple #[]) ∧ ∃ d' n os, PermIn 0 d.size d d' ∧ SortedIn (ltOf rwCmp) 0 d.size d' ∧ w' = sortWorldK rwEnc 3 w blk off n d' os := by
  have eg : ∀ args w, (callFunc 32 args).run Try.prog w = .ok (.enter 32 args) w := enters_of Try.func32 (by kernel_rfl) rfl
  exact AnyQ.slices_SortFunc_small_sorted srfSort 3 srgRow srgSize rwEnc (fun _ => rfl) (fun x v hv => by simp [rwEnc] at hv; rcases hv with rfl | rfl | rfl <;> rfl) rwCmp 32 #[] srgSwo blk off cap d w eg (srgLays blk off d.size w) hH hblk h12 srgLen
/-- What the sort leaves alone. -/
theorem srgStep (w : World) (blk off n : Nat) (d : Array (Int × Int × Int)) (os : Array Obj) : Step (fun b => b = blk) (fun b => b = blk) w (sortWorldK rwEnc 3 w blk off n d os) := by
  have hs : (sortWorldK rwEnc 3 w blk off n d os).heap = (mapBlock (Sort.ahead w n) blk (putCells id off (flatK rwEnc 3 d))).heap ++ os := rfl
  have hz : (mapBlock (Sort.ahead w n) blk (putCells id off (flatK rwEnc 3 d))).heap.size = w.heap.size := by simp [mapBlock]
  refine ⟨rfl, rfl, rfl, by rw [hs, Array.size_append, hz]; omega, fun b hb hne => ?_, fun b hb => .inl hb⟩
  rw [hs, Array.getElem?_append_left (by omega)]
  unfold mapBlock
  rw [Array.getElem?_modify, if_neg (fun e => hne e.symm)]
  rfl
set_option maxRecDepth 100000 in
set_option maxHeartbeats 4000000 in
theorem srgNone (w : World) : Calls Try.prog 31 #[.slice none 0 0, .func (.func 32) #[] #[]] w fun e w' => e = .returned (.tuple #[]) ∧ w = w' := by
  have K1 : Hid (Calls Try.prog 37 #[.slice none 0 0, .int .i64 0, .int .i64 0, .func (.func 32) #[] #[]] w fun e w' => e = .returned (.tuple #[]) ∧ w = w') := by
    unfold Hid
    go_enter Try.func37, Try.ntmps37
    go_wp2
    refine wp_loop_rounds 1 ?_
    rw [rounds_succ]
    go_wp2
    go_end0
    exact ⟨rfl, rfl⟩
  have K2 : Hid (∀ l : Int, Calls Try.prog 34 #[.slice none 0 0, .int .i64 0, .int .i64 0, .int .i64 l, .func (.func 32) #[] #[]] w fun e w' => e = .returned (.tuple #[]) ∧ w = w') := by
    intro l
    go_enter Try.func34, Try.ntmps34
    go_wp2
    refine wp_loop_rounds 1 ?_
    rw [rounds_succ]
    go_wp2_with fail
    refine K1.out.mono ?_
    rintro e w1 ⟨rfl, rfl⟩
    go_wp2
    (try simp only [Exit.inBlock, Exit.then])
    refine bodyPost_ret (results_none rfl _ _ _) rfl ?_
    exact ⟨rfl, rfl⟩
  have K3 : Hid (Calls Try.prog 35 #[.int .u64 0] w fun e w' => (∃ l : Int, e = .returned (.int .i64 l)) ∧ w' = w) := srgLen 0 w (by omega)
  go_enter Try.func31, Try.ntmps31
  go_wp2_with fail
  refine K3.out.mono ?_
  rintro e w1 ⟨⟨l, rfl⟩, rfl⟩
  go_wp2_with fail
  refine (K2.out _).mono ?_
  rintro e w1 ⟨rfl, rfl⟩
  go_wp2
  go_end0
  exact ⟨rfl, rfl⟩
end Go.Proofs.Ytfbghdkbimnnbaa
