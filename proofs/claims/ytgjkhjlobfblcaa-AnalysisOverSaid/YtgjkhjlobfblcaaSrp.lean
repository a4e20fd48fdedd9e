/- 'slices.SortFunc' at rows of pages, by their numbers: what the library's contract asks of this program, field by field. -/
import Derived.Test.YtgjkhjlobfblcaaSrf
namespace Go.Proofs.Ytgjkhjlobfblcaa
open Go.RowKit Go.Lib Go.Sort Go.Shelf

def srpSortRen : Ren :=
  ⟨fun n => match n with | 6 => 35 | 15 => 39 | 14 => 41 | 28 => 50 | 29 => 51 | 20 => 52 | 21 => 53 | 22 => 54 | 23 => 55 | 24 => 56 | 25 => 57 | 26 => 58 | 27 => 59 | 46 => 65 | 47 => 61 | 48 => 62 | 49 => 66 | 50 => 67 | 57 => 69 | n => n,
   fun n => match n with | 22 => 26 | 24 => 42 | 25 => 70 | 3 => 3 | 39 => 31 | 0 => 0 | 53 => 92 | 55 => 94 | 4 => 4 | 46 => 86 | 45 => 85 | 50 => 40 | 5 => 5 | 9 => 9 | 66 => 100 | 70 => 104 | 76 => 108 | 77 => 109 | n => n,
   fun n => n⟩
set_option maxRecDepth 100000 in
theorem srpSort : SlLaysF0.n6 Try.prog srpSortRen where
  mixed := by kernel_rfl
  f6 := ⟨"slices.SortFunc[[]careen/api.PageRow,careen/api.PageRow]", by decide, by kernel_rfl⟩
  f14 := ⟨"slices.pdqsortCmpFunc[careen/api.PageRow]", by decide, by kernel_rfl⟩
  f15 := by kernel_rfl
  f20 := ⟨"slices.insertionSortCmpFunc[careen/api.PageRow]", by decide, by kernel_rfl⟩
  f21 := ⟨"slices.heapSortCmpFunc[careen/api.PageRow]", by decide, by kernel_rfl⟩
  f22 := ⟨"slices.breakPatternsCmpFunc[careen/api.PageRow]", by decide, by kernel_rfl⟩
  f23 := ⟨"slices.choosePivotCmpFunc[careen/api.PageRow]", by decide, by kernel_rfl⟩
  f24 := ⟨"slices.reverseRangeCmpFunc[careen/api.PageRow]", by decide, by kernel_rfl⟩
  f25 := ⟨"slices.partialInsertionSortCmpFunc[careen/api.PageRow]", by decide, by kernel_rfl⟩
  f26 := ⟨"slices.partitionEqualCmpFunc[careen/api.PageRow]", by decide, by kernel_rfl⟩
  f27 := ⟨"slices.partitionCmpFunc[careen/api.PageRow]", by decide, by kernel_rfl⟩
  f28 := by kernel_rfl
  f29 := by kernel_rfl
  f46 := ⟨"slices.siftDownCmpFunc[careen/api.PageRow]", by decide, by kernel_rfl⟩
  f47 := by kernel_rfl
  f48 := by kernel_rfl
  f49 := ⟨"slices.medianAdjacentCmpFunc[careen/api.PageRow]", by decide, by kernel_rfl⟩
  f50 := ⟨"slices.medianCmpFunc[careen/api.PageRow]", by decide, by kernel_rfl⟩
  f57 := ⟨"slices.order2CmpFunc[careen/api.PageRow]", by decide, by kernel_rfl⟩
  t0 := by kernel_rfl
  a0 := fun w => by kernel_rfl
  z0 := fun w => by kernel_rfl
  v0 := fun w => by kernel_rfl
  t3 := by kernel_rfl
  a3 := fun w => by kernel_rfl
  z3 := fun w => by kernel_rfl
  v3 := fun w => by kernel_rfl
  t4 := by kernel_rfl
  a4 := fun w => by kernel_rfl
  z4 := fun w => by kernel_rfl
  v4 := fun w => by kernel_rfl
  t5 := by kernel_rfl
  a5 := fun w => by kernel_rfl
  z5 := fun w => by kernel_rfl
  v5 := fun w => by kernel_rfl
  t9 := by kernel_rfl
  a9 := fun w => by kernel_rfl
  z9 := fun w => by kernel_rfl
  v9 := fun w => by kernel_rfl
  t22 := by kernel_rfl
  a22 := fun w => by kernel_rfl
  z22 := fun w => by kernel_rfl
  v22 := fun w => by kernel_rfl
  t25 := by kernel_rfl
  a25 := fun w => by kernel_rfl
  z25 := fun w => by kernel_rfl
  v25 := fun w => by kernel_rfl
  t39 := by kernel_rfl
  a39 := fun w => by kernel_rfl
  z39 := fun w => by kernel_rfl
  v39 := fun w => by kernel_rfl
  t45 := by kernel_rfl
  a45 := fun w => by kernel_rfl
  z45 := fun w => by kernel_rfl
  v45 := fun w => by kernel_rfl
  t46 := by kernel_rfl
  a46 := fun w => by kernel_rfl
  z46 := fun w => by kernel_rfl
  v46 := fun w => by kernel_rfl
  t50 := by kernel_rfl
  a50 := fun w => by kernel_rfl
  z50 := fun w => by kernel_rfl
  v50 := fun w => by kernel_rfl
  t53 := by kernel_rfl
  a53 := fun w => by kernel_rfl
  z53 := fun w => by kernel_rfl
  v53 := fun w => by kernel_rfl
  t55 := by kernel_rfl
  a55 := fun w => by kernel_rfl
  z55 := fun w => by kernel_rfl
  v55 := fun w => by kernel_rfl
  t66 := by kernel_rfl
  a66 := fun w => by kernel_rfl
  z66 := fun w => by kernel_rfl
  v66 := fun w => by kernel_rfl
  t70 := by kernel_rfl
  a70 := fun w => by kernel_rfl
  z70 := fun w => by kernel_rfl
  v70 := fun w => by kernel_rfl
  t76 := by kernel_rfl
  a76 := fun w => by kernel_rfl
  z76 := fun w => by kernel_rfl
  v76 := fun w => by kernel_rfl
  t77 := by kernel_rfl
  a77 := fun w => by kernel_rfl
  z77 := fun w => by kernel_rfl
  v77 := fun w => by kernel_rfl
end Go.Proofs.Ytgjkhjlobfblcaa
