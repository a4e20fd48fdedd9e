/- Package table: Rows. -/
import Derived.Test.YtfbghdkbimnnbaaTbG
import Derived.Test.YtfbghdkbimnnbaaSrg
namespace Go.Proofs.Ytfbghdkbimnnbaa
open Go.RowKit Go.MapKept Go.Sort

/-- Rows as cells. -/
def rwV (l : List (Int × Int × Int)) : List Value := l.flatMap rwEnc
theorem rwV_len : ∀ l : List (Int × Int × Int), (rwV l).length = l.length * 3
  | [] => rfl
  | _ :: l => by
    have := rwV_len l
    unfold rwV at this ⊢
    rw [List.flatMap_cons, List.length_append, this, List.length_cons]
    simp only [rwEnc, List.length_cons, List.length_nil]
    omega
theorem rwV_snoc (l : List (Int × Int × Int)) (p : Int × Int × Int) : rwV l ++ [.int .i64 p.1, .int .i64 p.2.1, .int .i64 p.2.2] = rwV (l ++ [p]) := by
  unfold rwV; rw [List.flatMap_append]; rfl
theorem rwV_at : ∀ (l : List (Int × Int × Int)) (j : Nat) (p : Int × Int × Int), l[j]? = some p → (rwV l)[j * 3]? = some (.int .i64 p.1) ∧ (rwV l)[j * 3 + 1]? = some (.int .i64 p.2.1) ∧ (rwV l)[j * 3 + 2]? = some (.int .i64 p.2.2)
  | [], j, p, h => by simp at h
  | x :: l, 0, p, h => by simp at h; subst h; exact ⟨rfl, rfl, rfl⟩
  | x :: l, j + 1, p, h => by
    have := rwV_at l j p (by simpa using h)
    have e : (j + 1) * 3 = j * 3 + 1 + 1 + 1 := by omega
    rw [e]
    exact this
/-- Rows are told from an address on. -/
def RowsAt (w : World) (a : Option Addr) (cap : Nat) (l : List (Int × Int × Int)) : Prop :=
  l.length ≤ cap ∧ ∀ j p, l[j]? = some p → ∃ b off, a = some ⟨b, off, none⟩ ∧ w.cell? ⟨b, off + j * 3, none⟩ = some (.int .i64 p.1) ∧ w.cell? ⟨b, off + j * 3 + 1, none⟩ = some (.int .i64 p.2.1) ∧ w.cell? ⟨b, off + j * 3 + 2, none⟩ = some (.int .i64 p.2.2)
theorem RowsAt.below {w w' : World} {a : Option Addr} {cap : Nat} {l : List (Int × Int × Int)} (h : RowsAt w a cap l) (hb : Below w.heap.size w w') : RowsAt w' a cap l := by
  refine ⟨h.1, fun j p hj => ?_⟩
  obtain ⟨b, off, e, c0, c1, c2⟩ := h.2 j p hj
  have hlt := World.block_lt_of_cell? w _ c0
  have k : ∀ x, w'.cell? ⟨b, x, none⟩ = w.cell? ⟨b, x, none⟩ := fun x => hb.cell (p := ⟨b, x, none⟩) hlt
  exact ⟨b, off, e, (k _).trans c0, (k _).trans c1, (k _).trans c2⟩
def rowOf (x : Tx) : Int × Int × Int := (x.txn, x.first, x.last)
def rowsT (T : List Tx) : List (Int × Int × Int) := (T.filter fun x => decide (0 < x.last)).map rowOf
theorem rows_eq (l : Tb) : l.rows = rowsT l := rfl
theorem rowsT_perm {T T' : List Tx} (h : T.Perm T') : (rowsT T).Perm (rowsT T') := (h.filter _).map _
theorem rowsT_yes {x : Tx} {T : List Tx} (h : 0 < x.last) : rowsT (x :: T) = rowOf x :: rowsT T := by unfold rowsT; rw [List.filter_cons_of_pos (by simpa using h)]; rfl
theorem rowsT_no {x : Tx} {T : List Tx} (h : ¬ 0 < x.last) : rowsT (x :: T) = rowsT T := by unfold rowsT; rw [List.filter_cons_of_neg (by simpa using h)]
theorem rows_rise {l : Tb} (h : l.Ok) : l.rows.Pairwise fun a b => a.1 < b.1 := by
  unfold Tb.rows
  rw [List.pairwise_map]
  exact (h.rise.sublist List.filter_sublist).imp fun h => h
theorem rows_len {l : Tb} (h : l.Ok) : l.rows.length ≤ 4 := by
  unfold Tb.rows
  rw [List.length_map]
  exact Nat.le_trans (List.length_filter_le _ _) h.few
/-- A row that is owned holds what the sort asks for. -/
theorem holds_own {w : World} {B g cap : Nat} {D : List (Int × Int × Int)} (h : w.ownsRow B 46 3 (.slice (some ⟨g, 0, none⟩) D.length cap) D.length (rwV D)) : HoldsK rwEnc 3 w g 0 D.toArray := by
  intro t ht
  rw [size_flatK] at ht
  have ht' : t < D.length * 3 := by simpa using ht
  refine ⟨?_, by rw [Nat.zero_add]; exact h.frozenAt t⟩
  rw [Nat.zero_add, h.cellAt t ht', get_flatK _ _ _ _ ht]
  have hd : t / 3 < D.length := by omega
  have hp : D[t / 3]? = some D[t / 3] := List.getElem?_eq_getElem hd
  have hg : D.toArray[t / 3]! = D[t / 3] := by simp [hd]
  obtain ⟨h0, h1, h2⟩ := rwV_at D (t / 3) _ hp
  rw [hg]
  have h3 : t % 3 = 0 ∨ t % 3 = 1 ∨ t % 3 = 2 := by omega
  rcases h3 with h3 | h3 | h3 <;> rw [h3]
  · have e : t = t / 3 * 3 := by omega
    rw [← e] at h0; rw [h0]; rfl
  · have e : t = t / 3 * 3 + 1 := by omega
    rw [← e] at h1; rw [h1]; rfl
  · have e : t = t / 3 * 3 + 2 := by omega
    rw [← e] at h2; rw [h2]; rfl
/-- Sorted rows that are those of a table are told as those. -/
theorem sorted_rows {l : Tb} (ho : l.Ok) {D : List (Int × Int × Int)} (hp : D.Perm l.rows) {d' : Array (Int × Int × Int)} (h1 : PermIn 0 D.toArray.size D.toArray d') (h2 : SortedIn (ltOf rwCmp) 0 D.toArray.size d') : d'.toList = l.rows := by
  obtain ⟨hs, _, hpe⟩ := h1
  rw [Array.extract_size] at hpe
  rw [← hs, Array.extract_size] at hpe
  have hr := rows_rise ho
  refine List.Perm.eq_of_pairwise (le := fun a b => a.1 ≤ b.1) (fun a b ha hb h3 h4 => ?_) ?_ (hr.imp fun h => by omega) (hpe.trans hp)
  · have hm : a ∈ l.rows := (hpe.trans hp).subset ha
    have he : a.1 = b.1 := by omega
    obtain ⟨i, hi, rfl⟩ := List.getElem_of_mem hm
    obtain ⟨j, hj, rfl⟩ := List.getElem_of_mem hb
    rw [List.pairwise_iff_getElem] at hr
    by_cases hij : i = j
    · subst hij; rfl
    · rcases Nat.lt_or_gt_of_ne hij with h | h
      · have := hr i j hi hj h; omega
      · have := hr j i hj hi h; omega
  · rw [List.pairwise_iff_getElem]
    intro i j hi hj hij
    have hj' : j < d'.size := by simpa using hj
    have hi' : i < d'.size := by simpa using hi
    have := h2 i j (Nat.zero_le _) hij (by rw [← hs]; exact hj')
    rw [srgLt] at this
    rw [getElem!_pos d' i hi', getElem!_pos d' j hj'] at this
    simp only [decide_eq_false_iff_not] at this
    simp only [Array.getElem_toList]
    omega
theorem info_row : (Try.prog.toTables.info? 46).map (fun i => (i.zero, i.size, i.bytes)) = some (some (.agg #[.int .i64 0, .int .i64 0, .int .i64 0]), 3, 24) := by kernel_rfl
section
variable {w : World} {F : Foot} {q : Nat} {l : Tb}
/-- What Rows answers. -/
def RowsOut (w : World) (l : Tb) (e : Ending) (w' : World) : Prop := ∃ a cap, e = .returned (.slice a l.rows.length cap) ∧ RowsAt w' a cap l.rows ∧ Below w.heap.size w w'
set_option maxRecDepth 100000 in
set_option maxHeartbeats 8000000 in
theorem tbRows_none {B : Int → Nat} {V : Int → Value} (r : TbRaw w F q none B V l) :
    Calls Try.prog 25 #[.pointer (some ⟨q, 0, none⟩)] w (RowsOut w l) := by
  have c0 := r.cMap
  obtain rfl : l = [] := r.map
  have hr := run_range_nilMap (P := Try.prog) w 60 _ _ Try.underlying60
  have hx := run_next_nilMap (P := Try.prog) w 0 0 0 #[]
  have K := Lib.hid (fun W => srgNone W)
  have HB := Lib.hid ((Below.refl w.heap.size w).alloc (Nat.le_refl _) (.mapIter none 0 #[] 0))
  clear r
  go_enter Try.func25, Try.ntmps25
  go_wp2
  refine wp_loop_rounds 1 ?_
  rw [rounds_succ]
  go_wp2_with fail
  refine (K.out _).mono ?_
  rintro e w1 ⟨rfl, rfl⟩
  go_wp2
  go_ret
  exact ⟨none, 0, rfl, ⟨Nat.le_refl _, fun j p hj => by simp [Tb.rows] at hj⟩, HB.out⟩
set_option maxRecDepth 100000 in
set_option maxHeartbeats 8000000 in
theorem tbRows_some {B : Int → Nat} {V : Int → Value} {b : Nat} (r : TbRaw w F q (some b) B V l) (ho : l.Ok) :
    Calls Try.prog 25 #[.pointer (some ⟨q, 0, none⟩)] w (RowsOut w l) := by
  obtain ⟨i0, hi, hz0, hz1, hz2⟩ := info_parts info_row
  have c0 := r.cMap
  obtain ⟨es, clock, hb, hst, hpm⟩ := txnsList r.map ho
  obtain ⟨er, R0⟩ := Rng.start (P := Try.prog) (f := entV B) Try.underlying60 hb hst hpm
  have HR := Lib.hid r
  have HO := Lib.hid ho
  have HB0 := Lib.hid ((Below.refl w.heap.size w).alloc (Nat.le_refl _) (.mapIter (some b) clock #[] clock))
  have HL4 := Lib.hid (rows_len ho)
  clear r ho hb hst hpm
  go_enter Try.func25, Try.ntmps25
  go_wp2
  go_loopw [3] (fun v wr => ∃ (T : List Tx) (D : List (Int × Int × Int)), (∀ x ∈ T, x ∈ l) ∧ (D ++ rowsT T).Perm l.rows ∧ (D = [] → v = .slice none 0 0) ∧ wr.ownsRow w.heap.size 46 3 v D.length (rwV D) ∧ Rng wr b w.heap.size (entV B) T ∧ Below w.heap.size w wr) (fun _ wr => wr.rangeLeft b w.heap.size)
  case atStart => exact ⟨l, [], fun _ h => h, by rw [rows_eq]; exact .refl _, fun _ => rfl, World.ownsRow_nil _ _ _ _, R0, HB0.out⟩
  case round =>
    obtain ⟨T, D, hT, hD, hnil, hown, hR, hB⟩ := hrel
    rcases hR.next (P := Try.prog) 0 with ⟨rfl, en⟩ | ⟨x, T', w1, hp, en, hR1, hg, hs, hen⟩
    · have hD' : D.Perm l.rows := by have := hD; unfold rowsT at this; simpa using this
      have hlen := hD'.length_eq
      cases D with
      | nil =>
        obtain rfl := hnil rfl
        have hr0 : l.rows = [] := List.eq_nil_of_length_eq_zero hlen.symm
        have K := Lib.hid (srgNone wr)
        have OUT : Hid (RowsOut w l (.returned (.slice none 0 0)) wr) := ⟨none, 0, by rw [hr0]; rfl, ⟨by rw [hr0]; exact Nat.le_refl _, fun j p hj => by rw [hr0] at hj; simp at hj⟩, hB⟩
        clear hD hD' hlen hnil hown hR hB hT hr0 R0 hz0 hz1 hz2 hi HR c0
        go_wp2_with fail
        refine K.out.mono ?_
        rintro e w2 ⟨rfl, rfl⟩
        go_wp2
        go_ret
        exact OUT.out
      | cons p D =>
        obtain ⟨g, cap, hv, hc1, hc2⟩ := own_form hown (by simp)
        subst hv
        have hgl := hown.lt g rfl
        have hsz : (p :: D).toArray.size = (p :: D).length := by simp
        have hK := srgSort g 0 cap (p :: D).toArray wr (holds_own hown) hgl.2 (by rw [hsz, hlen]; have := HL4.out; omega)
        have K : Hid (Calls Try.prog 31 #[.slice (some ⟨g, 0, none⟩) (p :: D).length cap, .func (.func 32) #[] #[]] wr fun e w' => e = .returned (.tuple #[]) ∧ RowsOut w l (.returned (.slice (some ⟨g, 0, none⟩) (p :: D).length cap)) w') := by
          rw [hsz] at hK
          refine hK.mono ?_
          rintro e w2 ⟨rfl, d', n, os, h1, h2, rfl⟩
          refine ⟨rfl, some ⟨g, 0, none⟩, cap, by rw [hlen], ⟨by omega, fun j y hj => ?_⟩, (srgStep wr g 0 n d' os).belowB (fun b hb => by rw [hb]; exact hgl.1) hB hB.size⟩
          have hl := sorted_rows HO.out hD' (by rw [hsz]; exact h1) (by rw [hsz]; exact h2)
          have hds : d'.size = (p :: D).toArray.size := h1.1
          have hH := holdsK_sortWorldK_c rwEnc 3 wr g 0 (p :: D).toArray d' n os (holds_own hown) hgl.2 hds
          have hjl : j < d'.size := by
            have := (List.getElem?_eq_some_iff.1 hj).1
            rw [← hl] at this
            simpa using this
          have hy : d'[j]! = y := by
            rw [getElem!_pos d' j hjl]
            rw [← hl] at hj
            rw [Array.getElem?_toList, Array.getElem?_eq_getElem hjl] at hj
            exact Option.some.inj hj
          have e0 := (hH.cell hjl (c := 0) (by omega)).1
          have e1 := (hH.cell hjl (c := 1) (by omega)).1
          have e2 := (hH.cell hjl (c := 2) (by omega)).1
          rw [hy] at e0 e1 e2
          exact ⟨g, 0, rfl, e0, e1, e2⟩
        clear hD hD' hnil hown hR hB hT R0 hz0 hz1 hz2 hi HR c0 hK hsz hgl hc1 hc2
        generalize (p :: D).length = n at *
        have hn4 : (n : Int) ≤ 4 := by have := HL4.out; omega
        clear hlen
        go_wp2_with fail
        refine K.out.mono ?_
        rintro e w2 ⟨rfl, ho2⟩
        have HO2 := Lib.hid ho2
        clear ho2
        go_wp2
        go_ret
        exact HO2.out
    · have hb1 := hB.grown hg hB.size (fun k hk => by cases hk; exact Nat.le_refl _)
      have hx : x ∈ l := hT x (hp.mem_iff.2 (.head _))
      have hor := HO.out.order x hx
      have hst1 := (HR.out.below hb1).st x hx
      have c1 := hst1.cell 0
      have c2 := hst1.cell 1
      have c3 := hst1.cell 2
      simp [stCells] at c1 c2 c3
      have en' : (Instr.next (.pointer (some ⟨w.heap.size, 0, none⟩)) false 0).run Try.prog wr = .ok (.tuple #[.bool true, .int .i64 x.txn, .pointer (some ⟨B x.txn, 0, none⟩)]) w1 := en
      have hen' : (Instr.entry (.pointer (some ⟨w.heap.size, 0, none⟩))).run Try.prog w1 = .ok (.tuple #[.int .i64 x.txn, .pointer (some ⟨B x.txn, 0, none⟩)]) w1 := hen
      have M1 := hR.left_eq
      have M2 := hR1.left_eq
      have hlen2 := hp.length_eq
      rw [List.length_cons] at hlen2
      have HM : Hid (T'.length < wr.rangeLeft b w.heap.size) := by unfold Hid; rw [M1]; omega
      have hown1 : w1.ownsRow w.heap.size 46 3 u3 D.length (rwV D) := own_keep hown fun k hk => hg.block k (hown.lt k hk).2 (fun e => (hR.own hown).2 (by rw [hk, e]))
      have HT' : Hid (∀ y ∈ T', y ∈ l) := fun y hy => hT y (hp.mem_iff.2 (.tail _ hy))
      have hpr := rowsT_perm hp
      have HR1 := Lib.hid hR1
      have HB1 := Lib.hid hb1
      by_cases hpos : 0 < x.last
      · have hf : (x.first != 0) = true := by
          have : x.first ≠ 0 := fun e => by have := hor.2.2 e; omega
          simpa using this
        rw [rowsT_yes hpos] at hpr
        have HD : Hid (((D ++ [rowOf x]) ++ rowsT T').Perm l.rows) := by
          unfold Hid
          rw [List.append_assoc]
          exact (hpr.symm.append_left D).trans hD
        have hDl : D.length ≤ 4 := by
          have := HD.out.length_eq
          have h4 := HL4.out
          simp at this
          omega
        have HS := Lib.hid (rwV_snoc D (rowOf x))
        have HDL := Lib.hid hDl
        have hbz : w.heap.size ≤ w1.heap.size := hb1.size
        have HOW := Lib.hid hown1
        have hHO : Hid (u3 = u3 ∧ (D ++ [rowOf x]).length = D.length + 1) := ⟨rfl, by simp⟩
        clear M1 M2 hR1 hb1 hR hT hnil hD hpr hor hpos hx hst1 hlen2 hg hs hen en R0 hB hown hown1 hDl hp
        have hcx : rowOf x = (x.txn, x.first, x.last) := rfl
        rw [hcx] at HD HS hHO
        clear hcx
        generalize B x.txn = g at *
        generalize x.txn = t at *
        generalize x.first = f1 at *
        generalize x.last = f2 at *
        obtain ⟨va, vc, hvs⟩ := own_slice HOW.out
        subst hvs
        go_wp2_with (at_builtin; refine wpList_append_own_at _ rfl (.tmp 23) (.tmp 28) 52 rfl w.heap.size 46 i0 (.agg #[.int .i64 0, .int .i64 0, .int .i64 0]) 3 24 Try.underlying52 hi hz0 hz1 hz2 rfl (by decide) _ _ _ rfl (HOW.out.alloc _) ⟨w1.heap.size, 0, none⟩ 1 1 [.int .i64 t, .int .i64 f1, .int .i64 f2] rfl rfl (World.news_of_block (Blk.new _ _ _)) (by simp [Value.oneCell']) (by simp only [maxLen]; have := HDL.out; omega) (by have := HDL.out; omega) (by simp; omega) ?_)
        intro v' w2 hown' hgrow _ _
        rw [HS.out] at hown'
        have hb2 : RowKit.Below w.heap.size w w2 := (HB1.out.alloc HB1.out.size _).grown hgrow (by simp; omega) (fun k hk => (HOW.out.lt k hk).1)
        have hRA := HR1.out.below ((RowKit.Below.refl w1.heap.size w1).alloc (Nat.le_refl _) (.cells #[.int .i64 t, .int .i64 f1, .int .i64 f2] 46))
        have hno := hRA.own (HOW.out.alloc (.cells #[.int .i64 t, .int .i64 f1, .int .i64 f2] 46))
        have hR2 : Rng w2 b w.heap.size (entV B) T' := hRA.keep (hgrow.block b hRA.ltb (fun e => hno.1 e.symm)) (hgrow.block w.heap.size hRA.ltr (fun e => hno.2 e.symm))
        have HR2 := Lib.hid hR2
        have HB2 := Lib.hid hb2
        have HO2 : Hid (w2.ownsRow w.heap.size 46 3 v' (D ++ [(t, f1, f2)]).length (rwV (D ++ [(t, f1, f2)]))) := by
          unfold Hid
          rw [hHO.out.2]; exact hown'
        clear hR2 hb2 hown' hgrow hRA hno
        go_wp2
        exact ⟨⟨T', D ++ [(t, f1, f2)], HT'.out, HD.out, fun h => absurd h (by simp), HO2.out, HR2.out, HB2.out⟩, by rw [HR2.out.left_eq]; exact HM.out⟩
      · have hf : (x.first != 0) = false := by
          have : x.first = 0 := by omega
          simpa using this
        rw [rowsT_no hpos] at hpr
        have HD : Hid ((D ++ rowsT T').Perm l.rows) := (hpr.symm.append_left D).trans hD
        have HN := Lib.hid hnil
        have HOW := Lib.hid hown1
        clear M1 M2 hR1 hb1 hR hT hnil hD hpr hor hpos hx hst1 hlen2 hg hs hen en R0 hB hown hown1 hp
        generalize B x.txn = g at *
        generalize x.txn = t at *
        generalize x.first = f1 at *
        generalize x.last = f2 at *
        go_wp2
        exact ⟨⟨T', D, HT'.out, HD.out, HN.out, HOW.out, HR1.out, HB1.out⟩, by rw [HR1.out.left_eq]; exact HM.out⟩
theorem tbRows_any (h : IsTab w F q l) : Calls Try.prog 25 #[.pointer (some ⟨q, 0, none⟩)] w (RowsOut w l) := by
  obtain ⟨ho, m, B, V, r⟩ := h
  cases m with
  | none => exact tbRows_none r
  | some b => exact tbRows_some r ho
end
end Go.Proofs.Ytfbghdkbimnnbaa
