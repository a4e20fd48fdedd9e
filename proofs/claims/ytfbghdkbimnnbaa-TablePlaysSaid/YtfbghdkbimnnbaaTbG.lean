/- Package table: Need; calls of a table that is none. -/
import Derived.Test.YtfbghdkbimnnbaaTbF
namespace Go.Proofs.Ytfbghdkbimnnbaa
open Go.RowKit Go.MapKept

/-- How many changes stand, together. -/
def leftS : List Tx → Int
  | [] => 0
  | x :: l => x.left + leftS l
theorem leftS_perm {l l' : List Tx} (h : l.Perm l') : leftS l = leftS l' := by
  induction h with
  | nil => rfl
  | cons x _ ih => show _ + _ = _ + _; rw [ih]
  | swap x y l => show _ + (_ + _) = _ + (_ + _); omega
  | trans _ _ h1 h2 => exact h1.trans h2
theorem need_leftS : ∀ l : Tb, l.need = l.length + leftS l
  | [] => rfl
  | x :: l => by
    have := need_leftS l
    have e : Tb.need (x :: l) = 1 + x.left + Tb.need l := rfl
    rw [e, this, List.length_cons]
    show _ = _ + (x.left + leftS l)
    omega
theorem leftS_le {l : List Tx} (h : ∀ x ∈ l, 0 ≤ x.left ∧ x.left ≤ 1048576) : 0 ≤ leftS l ∧ leftS l ≤ 1048576 * l.length := by
  induction l with
  | nil => exact ⟨Int.le_refl _, by simp [leftS]⟩
  | cons y l ih =>
    have h1 := h y (.head _)
    have h2 := ih fun x hx => h x (.tail _ hx)
    show 0 ≤ y.left + leftS l ∧ y.left + leftS l ≤ _
    rw [List.length_cons]
    omega
/-- A transaction as the map has it. -/
def entV (B : Int → Nat) (x : Tx) : Value × Value := (.int .i64 x.txn, .pointer (some ⟨B x.txn, 0, none⟩))
section
variable {w : World} {F : Foot} {q : Nat} {l : Tb}
set_option maxRecDepth 100000 in
set_option maxHeartbeats 8000000 in
theorem tbNeed_none {B : Int → Nat} {V : Int → Value} (r : TbRaw w F q none B V l) (ho : l.Ok) :
    Calls Try.prog 27 #[.pointer (some ⟨q, 0, none⟩)] w fun e w' => e = .returned (.int .i64 l.need) ∧ Below w.heap.size w w' := by
  have c0 := r.cMap
  have hlen := len10 r.map ho
  obtain rfl : l = [] := r.map
  have hr := run_range_nilMap (P := Try.prog) w 60 _ _ Try.underlying60
  have hx := run_next_nilMap (P := Try.prog) w 0 0 0 #[]
  clear r ho
  go_enter Try.func27, Try.ntmps27
  go_wp2
  refine wp_loop_rounds 1 ?_
  rw [rounds_succ]
  go_wp2
  go_ret
  exact ⟨rfl, (Below.refl _ _).alloc (Nat.le_refl _) _⟩
set_option maxRecDepth 100000 in
set_option maxHeartbeats 8000000 in
theorem tbNeed_some {B : Int → Nat} {V : Int → Value} {b : Nat} (r : TbRaw w F q (some b) B V l) (ho : l.Ok) :
    Calls Try.prog 27 #[.pointer (some ⟨q, 0, none⟩)] w fun e w' => e = .returned (.int .i64 l.need) ∧ Below w.heap.size w w' := by
  have c0 := r.cMap
  have hlen := len10 r.map ho
  obtain ⟨es, clock, hb, hst, hpm⟩ := txnsList r.map ho
  obtain ⟨er, R0⟩ := Rng.start (P := Try.prog) (f := entV B) Try.underlying60 hb hst hpm
  have HR := Lib.hid r
  have HO := Lib.hid ho
  have HN := Lib.hid (need_leftS l)
  have HB0 := Lib.hid ((Below.refl w.heap.size w).alloc (Nat.le_refl _) (.mapIter (some b) clock #[] clock))
  have hl4 : (l.length : Int) ≤ 4 := by have := ho.few; omega
  clear r ho hb hst hpm
  generalize hln : l.length = n at *
  have HLN := Lib.hid hln
  clear hln
  go_enter Try.func27, Try.ntmps27
  go_wp2
  go_loopw [3] (fun v wr => ∃ (T : List Tx) (d : Int), v = .int .i64 d ∧ (∀ x ∈ T, x ∈ l) ∧ d + leftS T = n + leftS l ∧ 0 ≤ d ∧ d ≤ 4 + 1048576 * (4 - T.length) ∧ T.length ≤ 4 ∧ Rng wr b w.heap.size (entV B) T ∧ Below w.heap.size w wr) (fun _ wr => wr.rangeLeft b w.heap.size)
  case atStart => exact ⟨l, n, rfl, fun _ h => h, rfl, by omega, by rw [HLN.out]; omega, by rw [HLN.out]; omega, R0, HB0.out⟩
  case round =>
    obtain ⟨T, d, rfl, hT, hsum, hd0, hd1, hTl, hR, hB⟩ := hrel
    rcases hR.next (P := Try.prog) 0 with ⟨rfl, en⟩ | ⟨x, T', w1, hp, en, hR1, hg, hs, hen⟩
    · have HE : Hid (l.need = d) := by rw [HN.out, ← hsum]; show d + 0 = d; omega
      clear hR hT hsum hd0 hd1 hTl R0
      go_wp2
      go_ret
      exact ⟨by rw [HE.out]; rfl, hB⟩
    · have hb1 := hB.grown hg hB.size (fun k hk => by cases hk; exact Nat.le_refl _)
      have hx : x ∈ l := hT x (hp.mem_iff.2 (.head _))
      have c3 := ((HR.out.below hb1).st x hx).cell 3
      simp [stCells] at c3
      have en' : (Instr.next (.pointer (some ⟨w.heap.size, 0, none⟩)) false 0).run Try.prog wr = .ok (.tuple #[.bool true, .int .i64 x.txn, .pointer (some ⟨B x.txn, 0, none⟩)]) w1 := en
      have hen' : (Instr.entry (.pointer (some ⟨w.heap.size, 0, none⟩))).run Try.prog w1 = .ok (.tuple #[.int .i64 x.txn, .pointer (some ⟨B x.txn, 0, none⟩)]) w1 := hen
      have hl1 := HO.out.left x hx
      have hlen2 := hp.length_eq
      rw [List.length_cons] at hlen2
      have hls := leftS_perm hp
      have hlx : leftS (x :: T') = x.left + leftS T' := rfl
      rw [hlx] at hls
      have hwr : IntKind.i64.wrap (d + x.left) = d + x.left := IntWalk.i64_in _ (by omega)
      have REL : Hid ((∀ y ∈ T', y ∈ l) ∧ (d + x.left) + leftS T' = n + leftS l ∧ 0 ≤ d + x.left ∧ d + x.left ≤ 4 + 1048576 * (4 - T'.length) ∧ T'.length ≤ 4) :=
        ⟨fun y hy => hT y (hp.mem_iff.2 (.tail _ hy)), by omega, by omega, by omega, by omega⟩
      have M1 := hR.left_eq
      have M2 := hR1.left_eq
      have HR1 := Lib.hid hR1
      have HB1 := Lib.hid hb1
      have HM : Hid (w1.rangeLeft b w.heap.size < wr.rangeLeft b w.heap.size) := by unfold Hid; rw [M1, M2]; omega
      clear M1 M2 hR1 hb1 hR hT hsum hd0 hd1 hTl hl1 hlen2 hls hlx hp hx hg hs hen en R0 hB
      generalize B x.txn = g at *
      generalize x.txn = t at *
      go_wp2
      exact ⟨⟨T', _, rfl, REL.out.1, REL.out.2.1, REL.out.2.2.1, REL.out.2.2.2.1, REL.out.2.2.2.2, HR1.out, HB1.out⟩, HM.out⟩
theorem tbNeed_any (h : IsTab w F q l) :
    Calls Try.prog 27 #[.pointer (some ⟨q, 0, none⟩)] w fun e w' => e = .returned (.int .i64 l.need) ∧ Below w.heap.size w w' := by
  obtain ⟨ho, m, B, V, r⟩ := h
  cases m with
  | none => exact tbNeed_none r ho
  | some b => exact tbNeed_some r ho
end
set_option maxRecDepth 100000 in
theorem tbBegin_nil (t : Int) (w : World) : Calls Try.prog 10 #[.pointer none, .int .i64 t] w fun e w' => e = .returned (.int .i64 10) ∧ w = w' := by
  go_enter Try.func10, Try.ntmps10
  go_wp2
  go_ret
  exact ⟨rfl, rfl⟩
set_option maxRecDepth 100000 in
theorem tbLog_nil (t k : Int) (w : World) : Calls Try.prog 12 #[.pointer none, .int .i64 t, .int .i64 k] w fun e w' => e = .returned (.int .i64 10) ∧ w = w' := by
  have K := Lib.hid (tbFind_nil t w)
  go_enter Try.func12, Try.ntmps12
  go_wp2_with fail
  refine K.out.mono ?_
  rintro e w1 ⟨rfl, rfl⟩
  go_wp2
  go_ret
  exact ⟨rfl, rfl⟩
set_option maxRecDepth 100000 in
theorem tbLeft_nil (t k : Int) (w : World) : Calls Try.prog 14 #[.pointer none, .int .i64 t, .int .i64 k] w fun e w' => e = .returned (.int .i64 10) ∧ w = w' := by
  have K := Lib.hid (tbFind_nil t w)
  go_enter Try.func14, Try.ntmps14
  go_wp2_with fail
  refine K.out.mono ?_
  rintro e w1 ⟨rfl, rfl⟩
  go_wp2
  go_ret
  exact ⟨rfl, rfl⟩
set_option maxRecDepth 100000 in
theorem tbMark_nil (t k : Int) (w : World) : Calls Try.prog 16 #[.pointer none, .int .i64 t, .int .i64 k] w fun e w' => e = .returned (.tuple #[.int .i64 0, .int .i64 10]) ∧ w = w' := by
  have K := Lib.hid (tbFind_nil t w)
  go_enter Try.func16, Try.ntmps16
  go_wp2_with fail
  refine K.out.mono ?_
  rintro e w1 ⟨rfl, rfl⟩
  go_wp2
  go_ret2
  exact ⟨rfl, rfl⟩
set_option maxRecDepth 100000 in
theorem tbBack_nil (t k : Int) (w : World) : Calls Try.prog 18 #[.pointer none, .int .i64 t, .int .i64 k] w fun e w' => e = .returned (.tuple #[.int .i64 0, .int .i64 0, .int .i64 10]) ∧ w = w' := by
  have K := Lib.hid (tbFind_nil t w)
  go_enter Try.func18, Try.ntmps18
  go_wp2_with fail
  refine K.out.mono ?_
  rintro e w1 ⟨rfl, rfl⟩
  go_wp2
  go_ret3
  exact ⟨rfl, rfl⟩
set_option maxRecDepth 100000 in
theorem tbEnd_nil (t : Int) (w : World) : Calls Try.prog 20 #[.pointer none, .int .i64 t] w fun e w' => e = .returned (.int .i64 10) ∧ w = w' := by
  have K := Lib.hid (tbFind_nil t w)
  go_enter Try.func20, Try.ntmps20
  go_wp2_with fail
  refine K.out.mono ?_
  rintro e w1 ⟨rfl, rfl⟩
  go_wp2
  go_ret
  exact ⟨rfl, rfl⟩
set_option maxRecDepth 100000 in
theorem tbNeed_nil (w : World) : Calls Try.prog 27 #[.pointer none] w fun e w' => e = .returned (.int .i64 0) ∧ w = w' := by
  go_enter Try.func27, Try.ntmps27
  go_wp2
  go_ret
  exact ⟨rfl, rfl⟩
set_option maxRecDepth 100000 in
theorem tbRows_nil (w : World) : Calls Try.prog 25 #[.pointer none] w fun e w' => e = .returned (.slice none 0 0) ∧ w = w' := by
  go_enter Try.func25, Try.ntmps25
  go_wp2
  go_ret
  exact ⟨rfl, rfl⟩
set_option maxRecDepth 100000 in
set_option maxHeartbeats 4000000 in
theorem tbRow_nil (t : Int) (w : World) : Calls Try.prog 22 #[.pointer none, .int .i64 t] w fun e w' => e = .returned (.tuple #[.agg #[.int .i64 0, .int .i64 0, .int .i64 0], .int .i64 0, .int .i64 10]) ∧ Below w.heap.size w w' := by
  have K := Lib.hid (fun W => tbFind_nil t W)
  have X0 := Blk.new w 46 #[.int .i64 0, .int .i64 0, .int .i64 0]
  have HB0 := Lib.hid ((Below.refl w.heap.size w).alloc (Nat.le_refl _) (.cells #[.int .i64 0, .int .i64 0, .int .i64 0] 46))
  have HX := Lib.hid X0
  clear X0
  go_enter Try.func22, Try.ntmps22
  go_wp2_with fail
  refine (K.out _).mono ?_
  rintro e w1 ⟨rfl, rfl⟩
  go_wp2_with (refine wpList_store_row rfl 46 _ _ rfl w.heap.size _ rfl rfl 46 _ HX.out (by kernel_rfl) (by simp) (by simp [Value.oneCell']) ?_)
  exact bodyPost_ret (results_ctt rfl _ _ w.heap.size 46 _ _ rfl (HX.out.setRow _) Try.underlying46 rfl (by kernel_rfl)) rfl ⟨rfl, (Spare.setRow (S := (· = w.heap.size)) rfl _).below HB0.out (fun b e => by rw [e]; exact Nat.le_refl _) HB0.out.size⟩
end Go.Proofs.Ytfbghdkbimnnbaa
