/- Rows of pages out of a map, sorted by their numbers: slices.SortedFunc over maps.Values. -/
import Derived.Shelf.SlSortCmp.WholeK
import Derived.Test.YtgjkhjlobfblcaaSrp
import Derived.Test.YtgjkhjlobfblcaaAsW
namespace Go.Proofs.Ytgjkhjlobfblcaa
open Go.RowKit Go.Lib Go.Sort Go.Shelf Go.MapKept
set_option linter.unusedSimpArgs false

def cmpP (x y : Row2) : Int := Lib.compareInt x.1 y.1
set_option maxHeartbeats 1000000 in
theorem cmpP_run (x y : Row2) (W : World) : Calls Try.prog 30 #[.agg #[.int .i64 x.1, .int .i64 x.2], .agg #[.int .i64 y.1, .int .i64 y.2]] W fun e w' => e = .returned (.int .i64 (Lib.compareInt x.1 y.1)) ∧ ∃ q os', w' = grow (W.drewN q) os' := by
  have hcon := fun W' => AnyG.cmp_Compare_int srfCmp x.1 y.1 W'
  change ∀ W', Calls Try.prog 18 _ _ _ at hcon
  generalize Lib.compareInt x.1 y.1 = r at hcon ⊢
  go_enter Try.func30, Try.ntmps30
  go_wp2_with (go_at_call 18; refine (hcon _).mono ?_; rintro e w' ⟨rfl, rfl⟩)
  go_ret
  exact ⟨rfl, 0, _, by rw [alloc_eq_grow, alloc_eq_grow, grow_grow]; rfl⟩
theorem laysP (blk off size : Nat) (w : World) : CmpLays Try.prog 30 #[] cells2 2 cmpP blk off size w := fun _ _ _ _ x y => cmpP_run x y _
theorem ltP (x y : Row2) : ltOf cmpP x y = decide (x.1 < y.1) := by
  unfold ltOf cmpP Lib.compareInt
  by_cases h1 : x.1 < y.1
  · simp [h1]
  · by_cases h2 : y.1 < x.1 <;> simp [h1, h2]
theorem swoP : SWO (ltOf cmpP) where
  irrefl x := by rw [ltP]; simp
  trans x y z h1 h2 := by rw [ltP] at *; simp at *; omega
  ntrans x y z h1 h2 := by rw [ltP] at *; simp at *; omega
theorem aggP : ∀ w, (isAgg 42).run Try.prog w = .ok true w := fun w => by kernel_rfl
theorem sizeP : ∀ w, (Go.sizeOf 42).run Try.prog w = .ok 2 w := fun w => by kernel_rfl
theorem sortP (blk off cap : Nat) (d : Array Row2) (w : World) (hH : HoldsK cells2 2 w blk off d) (hblk : blk < w.heap.size) (hs : d.size < 4611686018427387904) :
    Calls Try.prog 35 #[.slice (some ⟨blk, off, none⟩) d.size cap, .func (.func 30) #[] #[]] w fun e w' => e = .returned (.tuple #[]) ∧ ∃ d' n os, PermIn 0 d.size d d' ∧ SortedIn (ltOf cmpP) 0 d.size d' ∧ w' = sortWorldK cells2 2 w blk off n d' os := by
  have eg : ∀ args w, (callFunc 30 args).run Try.prog w = .ok (.enter 30 args) w := enters_of Try.func30 (by kernel_rfl) rfl
  exact AnyQ.slices_SortFunc srpSort 2 aggP sizeP cells2 (fun _ => rfl) (fun x v hv => by simp [cells2] at hv; rcases hv with rfl | rfl <;> rfl) cmpP swoP 30 #[] blk off cap d w eg (laysP blk off d.size w) hH hblk hs
/-- What the sort leaves alone. -/
theorem belowP (w : World) (blk off n B : Nat) (d : Array Row2) (os : Array Obj) (hB : B ≤ blk) (hz : B ≤ w.heap.size) : Below B w (sortWorldK cells2 2 w blk off n d os) := by
  have hs : (sortWorldK cells2 2 w blk off n d os).heap = (mapBlock (Sort.ahead w n) blk (putCells id off (flatK cells2 2 d))).heap ++ os := rfl
  have hz : (mapBlock (Sort.ahead w n) blk (putCells id off (flatK cells2 2 d))).heap.size = w.heap.size := by simp [mapBlock]
  refine ⟨rfl, rfl, rfl, by rw [hs, Array.size_append, hz]; omega, fun b hb => ?_⟩
  rw [hs, Array.getElem?_append_left (by omega)]
  unfold mapBlock
  rw [Array.getElem?_modify, if_neg (fun e => by omega)]
  rfl
theorem flatP (D : List Row2) (t : Nat) (ht : t < D.length * 2) : (rows2 D)[t]? = some (flatK cells2 2 D.toArray)[t]! := by
  rw [get_flatK _ _ _ _ (by simpa using ht)]
  have hd : t / 2 < D.length := by omega
  have hg : D.toArray[t / 2]! = D[t / 2] := by simp [hd]
  obtain ⟨h0, h1⟩ := rows2_at D (t / 2) hd
  rw [hg]
  have h3 : t % 2 = 0 ∨ t % 2 = 1 := by omega
  rcases h3 with h3 | h3 <;> rw [h3]
  · have e : t = t / 2 * 2 := by omega
    rw [← e] at h0; rw [h0]; rfl
  · have e : t = t / 2 * 2 + 1 := by omega
    rw [← e] at h1; rw [h1]; rfl
/-- A row that is owned holds what the sort asks for. -/
theorem holdsP {w : World} {B g cap : Nat} {D : List Row2} (h : w.ownsRow B 42 2 (.slice (some ⟨g, 0, none⟩) D.length cap) D.length (rows2 D)) : HoldsK cells2 2 w g 0 D.toArray := by
  intro t ht
  rw [size_flatK] at ht
  have ht' : t < D.length * 2 := by simpa using ht
  refine ⟨?_, by rw [Nat.zero_add]; exact h.frozenAt t⟩
  rw [Nat.zero_add, h.cellAt t ht']
  exact flatP D t ht'
/-- Sorted rows that are those of a map are told as those. -/
theorem toldP {f : An.PF} {D : List Row2} (hD : HoldsP f D) {d' : Array Row2} (h1 : PermIn 0 D.toArray.size D.toArray d') (h2 : SortedIn (ltOf cmpP) 0 D.toArray.size d') : An.TellsP f d'.toList := by
  obtain ⟨hs, _, hpe⟩ := h1
  rw [Array.extract_size] at hpe
  rw [← hs, Array.extract_size] at hpe
  have hpe : d'.toList.Perm D := hpe
  have hn : (d'.toList.map (·.1)).Nodup := (hpe.map (·.1)).nodup_iff.2 hD.1
  refine ⟨?_, fun n v => (hD.2 n v).trans hpe.mem_iff.symm⟩
  rw [List.pairwise_iff_getElem]
  intro i j hi hj hij
  have hj' : j < d'.size := by simpa using hj
  have hi' : i < d'.size := by simpa using hi
  have := h2 i j (Nat.zero_le _) hij (by rw [← hs]; exact hj')
  rw [ltP] at this
  rw [getElem!_pos d' i hi', getElem!_pos d' j hj'] at this
  simp only [decide_eq_false_iff_not] at this
  simp only [Array.getElem_toList]
  have hne : d'[i].1 ≠ d'[j].1 := fun e => by
    rw [List.nodup_iff_pairwise_ne, List.pairwise_map, List.pairwise_iff_getElem] at hn
    exact hn i j hi hj hij (by simpa using e)
  omega
/-- What is told, in memory. -/
def TellP (w : World) (f : An.PF) (e : Ending) (w' : World) : Prop := ∃ (v : Value) (l : List Row2), e = .returned v ∧ An.TellsP f l ∧ Elems w' v l.length (rows2 l) ∧ Below w.heap.size w w' ∧ ∀ b, v.ownBlock = some b → w.heap.size ≤ b ∧ b < w'.heap.size
set_option maxRecDepth 100000 in
set_option maxHeartbeats 4000000 in
theorem noneP (w : World) : Calls Try.prog 35 #[.slice none 0 0, .func (.func 30) #[] #[]] w fun e w' => e = .returned (.tuple #[]) ∧ w = w' := by
  have K1 : Hid (Calls Try.prog 52 #[.slice none 0 0, .int .i64 0, .int .i64 0, .func (.func 30) #[] #[]] w fun e w' => e = .returned (.tuple #[]) ∧ w = w') := by
    unfold Hid
    go_enter Try.func52, Try.ntmps52
    go_wp2
    refine wp_loop_rounds 1 ?_
    rw [rounds_succ]
    go_wp2
    go_end0
    exact ⟨rfl, rfl⟩
  have K2 : Hid (∀ l : Int, Calls Try.prog 41 #[.slice none 0 0, .int .i64 0, .int .i64 0, .int .i64 l, .func (.func 30) #[] #[]] w fun e w' => e = .returned (.tuple #[]) ∧ w = w') := by
    intro l
    go_enter Try.func41, Try.ntmps41
    go_wp2
    refine wp_loop_rounds 1 ?_
    rw [rounds_succ]
    go_wp2_with fail
    refine K1.out.mono ?_
    rintro e w1 ⟨rfl, rfl⟩
    go_wp2
    (try simp only [Exit.inBlock, Exit.then])
    refine bodyPost_ret (results_none rfl _ _ _) rfl ?_
    exact ⟨rfl, rfl⟩
  have K3 : Hid (Calls Try.prog 39 #[.int .u64 0] w fun e w' => (∃ l : Int, e = .returned (.int .i64 l)) ∧ w' = w) :=
    (Any.bits_Len srfLen 0 w (by omega) (by omega)).mono fun _ _ ⟨he, hw⟩ => ⟨⟨_, he⟩, hw⟩
  go_enter Try.func35, Try.ntmps35
  go_wp2_with fail
  refine K3.out.mono ?_
  rintro e w1 ⟨⟨l, rfl⟩, rfl⟩
  go_wp2_with fail
  refine (K2.out _).mono ?_
  rintro e w1 ⟨rfl, rfl⟩
  go_wp2
  go_end0
  exact ⟨rfl, rfl⟩
/-- What is sorted reads as its rows. -/
theorem elemsP {w : World} {g cap n : Nat} {os : Array Obj} {D : List Row2} {d' : Array Row2} (hH : HoldsK cells2 2 w g 0 D.toArray) (hg : g < w.heap.size) (hs : d'.size = D.toArray.size) (hc : D.length ≤ cap) (hm : cap ≤ maxLen) :
    Elems (sortWorldK cells2 2 w g 0 n d' os) (.slice (some ⟨g, 0, none⟩) d'.toList.length cap) d'.toList.length (rows2 d'.toList) := by
  have hH2 := holdsK_sortWorldK_c cells2 2 w g 0 D.toArray d' n os hH hg hs
  have hl : d'.toList.length = D.length := by simpa using hs
  refine ⟨_, cap, rfl, by omega, hm, fun j x hj => ⟨g, 0, rfl, ?_⟩⟩
  have hjl : j < d'.toList.length * 2 := by
    have := (List.getElem?_eq_some_iff.1 hj).1
    rwa [rows2_len] at this
  have h1 := (hH2 j (by rw [size_flatK]; simpa using hjl)).1
  have h2 := flatP d'.toList j hjl
  rw [hj] at h2
  rw [h1, Option.some.inj h2]
  rfl
theorem nilP {f : An.PF} (h : HoldsP f []) : An.TellsP f [] := ⟨List.Pairwise.nil, h.2⟩
set_option maxRecDepth 100000 in
set_option maxHeartbeats 4000000 in
theorem sortedP {w : World} {b B : Nat} {f : An.PF} {L : List Row2} (hm : BMap w b (pF f)) (hL : HoldsP f L) (hB : Blk w B 52 #[.map (some b)]) (hl : L.length ≤ 1000000) :
    Calls Try.prog 28 #[.func (.func 36) #[] #[.pointer (some ⟨B, 0, none⟩)], .func (.func 30) #[] #[]] w (TellP w f) := by
  have C := Lib.hid (collectP 36 #[.pointer (some ⟨B, 0, none⟩)] (enters_of Try.func36 (by kernel_rfl) rfl) _ _ hl w (values1P 1 hm hL hB))
  have HL := Lib.hid hL
  clear hm hL hB
  go_enter Try.func28, Try.ntmps28
  go_wp2_with fail
  refine C.out.mono ?_
  clear C
  rintro e w1 ⟨v, ss, rfl, hp, hown, hnil, hb⟩
  have hS : HoldsP f ss := ⟨(hp.map (·.1)).nodup_iff.2 HL.out.1, fun n v => (HL.out.2 n v).trans hp.mem_iff.symm⟩
  have hlen : ss.length ≤ 1000000 := by rw [hp.length_eq]; exact hl
  have HB := Lib.hid hb
  have HS := Lib.hid hS
  clear hp hb hS HL
  cases ss with
  | nil =>
    obtain rfl := hnil rfl
    have K := Lib.hid (noneP w1)
    clear hown hnil
    go_wp2_with fail
    refine K.out.mono ?_
    rintro e w2 ⟨rfl, rfl⟩
    go_wp2
    go_ret
    exact ⟨_, [], rfl, nilP HS.out, Elems.nil _, HB.out, fun b h => by simp [Value.ownBlock] at h⟩
  | cons x ss =>
    obtain ⟨g, cap, rfl, hc1, hc2⟩ := own_form hown (by simp)
    have hgl := hown.lt g rfl
    have hH := holdsP hown
    have hK := sortP g 0 cap (x :: ss).toArray w1 hH hgl.2 (by simp only [List.size_toArray]; omega)
    have K : Hid (Calls Try.prog 35 #[.slice (some ⟨g, 0, none⟩) (x :: ss).length cap, .func (.func 30) #[] #[]] w1 fun e w' => e = .returned (.tuple #[]) ∧ TellP w f (.returned (.slice (some ⟨g, 0, none⟩) (x :: ss).length cap)) w') := by
      rw [List.size_toArray] at hK
      refine hK.mono ?_
      rintro e w2 ⟨rfl, d', n, os, h1, h2, rfl⟩
      have hs : d'.size = (x :: ss).toArray.size := h1.1
      have he := elemsP (n := n) (os := os) hH hgl.2 hs hc1 hc2
      have hle : d'.toList.length = (x :: ss).length := by simpa using hs
      refine ⟨rfl, _, d'.toList, by rw [hle], toldP HS.out (by rw [List.size_toArray]; exact h1) (by rw [List.size_toArray]; exact h2), he, HB.out.trans (belowP w1 g 0 n _ d' os (by omega) HB.out.size), fun b h => by
        simp only [Value.ownBlock, Option.some.injEq] at h
        subst h
        exact ⟨by omega, Nat.lt_of_lt_of_le hgl.2 (belowP w1 g 0 n 0 d' os (Nat.zero_le _) (Nat.zero_le _)).size⟩⟩
    clear hown hnil hc1 hc2 hgl hH hK HS
    generalize (x :: ss).length = n at *
    go_wp2_with fail
    refine K.out.mono ?_
    rintro e w2 ⟨rfl, ho2⟩
    have HO2 := Lib.hid ho2
    clear ho2
    go_wp2
    go_ret
    exact HO2.out
set_option maxRecDepth 100000 in
set_option maxHeartbeats 4000000 in
/-- The rows, told rising. -/
theorem rowsP {w : World} {mt mp : Nat} {f : An.PF} {L : List Row2} (hm : BMap w mp (pF f)) (hL : HoldsP f L) (hl : L.length ≤ 1000000) : Calls Try.prog 21 #[stV mt mp] w (TellP w f) := by
  unfold stV
  have k0 := Blk.new w 54 #[.map (some mt), .map (some mp)]
  have hb := (Below.refl w.heap.size w).alloc (Nat.le_refl _) (.cells #[.map (some mt), .map (some mp)] 54)
  have hm1 := hm.keep (hb.block mp hm.lt)
  go_enter Try.func21, Try.ntmps21
  go_upto_region 1 with fail
  generalize w.alloc (.cells #[.map (some mt), .map (some mp)] 54) = w1 at *
  have c0 := k0.cell 1
  simp only [List.getElem?_toArray, List.getElem?_cons_zero, List.getElem?_cons_succ] at c0
  have V := Lib.hid (valuesP mp w1)
  have b2 := Blk.new w1 52 #[.map (some mp)]
  have hb2 := (Below.refl w1.heap.size w1).alloc (Nat.le_refl _) (.cells #[.map (some mp)] 52)
  have K := Lib.hid (sortedP (hm1.keep (hb2.block mp hm1.lt)) hL b2 hl)
  have HB := Lib.hid (hb.trans (hb2.mono hb.size))
  clear hm hL hm1 hb hb2 b2 k0
  go_wp2_with fail
  refine V.out.mono ?_
  rintro e w2 ⟨rfl, rfl⟩
  clear V
  go_wp2_with fail
  refine K.out.mono ?_
  clear K
  rintro e w3 ⟨v, l, rfl, h1, h2, h3, h4⟩
  go_wp2
  go_ret
  exact ⟨v, l, rfl, h1, h2, HB.out.trans (h3.mono HB.out.size), fun b h => ⟨Nat.le_trans HB.out.size (h4 b h).1, (h4 b h).2⟩⟩
end Go.Proofs.Ytgjkhjlobfblcaa
