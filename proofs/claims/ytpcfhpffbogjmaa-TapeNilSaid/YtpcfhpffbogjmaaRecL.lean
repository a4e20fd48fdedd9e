/- Package record: Print. -/
import Derived.Test.YtpcfhpffbogjmaaRecF
import Derived.Test.YtpcfhpffbogjmaaLoadG
import Derived.Test.YtpcfhpffbogjmaaRecH
import Derived.Test.YtpcfhpffbogjmaaRecJ
namespace Go.Proofs.Ytpcfhpffbogjmaa
open Go.RowKit

theorem lay_eqs (k t p pg o x bg : Int) (bf af : ByteArray) (ts : List Row3) (ps : List Row2) :
    (k = 1 → lay ⟨k, t, pg, o, p, x, bg, bf, af, ts, ps⟩ = [lowI k] ++ beI t ++ beI p ++ [lowI pg, lowI o, lowI af.size] ++ bf.data.toList ++ af.data.toList) ∧
    (k = 2 → lay ⟨k, t, pg, o, p, x, bg, bf, af, ts, ps⟩ = [lowI k] ++ beI t ++ beI p ++ beI x ++ [lowI pg, lowI o, lowI af.size] ++ bf.data.toList ++ af.data.toList) ∧
    (k ≤ 4 → k ≠ 1 → k ≠ 2 → lay ⟨k, t, pg, o, p, x, bg, bf, af, ts, ps⟩ = [lowI k] ++ beI t ++ beI p) ∧
    (4 < k → k ≠ 6 → lay ⟨k, t, pg, o, p, x, bg, bf, af, ts, ps⟩ = [lowI k]) ∧
    (k = 6 → lay ⟨k, t, pg, o, p, x, bg, bf, af, ts, ps⟩ = [lowI k] ++ encTab ⟨k, t, pg, o, p, x, bg, bf, af, ts, ps⟩) := by
  refine ⟨?_, ?_, ?_, ?_, ?_⟩
  · rintro rfl; simp [lay]
  · rintro rfl; simp [lay]
  · intro h1 h2 h3; simp [lay, h1, h2, h3, show ¬ k = 6 by omega]
  · intro h1 h2; simp [lay, h2, show ¬ k ≤ 4 by omega, show ¬ k = 1 by omega, show ¬ k = 2 by omega]
  · rintro rfl; simp [lay]

theorem lay_any {w : World} {v : Value} {r : Rc} (hv : IsRec w v r) (hf : Fit r) :
    Calls Try.prog 46 #[v] w fun e w' => e = .returned (.string ⟨(lay r).toArray⟩) ∧ Below w.heap.size w w' := by
  obtain ⟨vt, vp, rfl, hl⟩ := hv
  obtain ⟨k, t, pg, o, p, x, bg, bf, af, ts, ps⟩ := r
  obtain ⟨e1, e2, e3, e4, e5⟩ := lay_eqs k t p pg o x bg bf af ts ps
  by_cases h1 : k = 1
  · exact lay_upd h1 hl hf _ (e1 h1)
  · by_cases h2 : k = 2
    · exact lay_und h2 hl hf _ (e2 h2)
    · by_cases h4 : k ≤ 4
      · exact lay_com h4 h1 h2 hl hf _ (e3 h4 h1 h2)
      · by_cases h6 : k = 6
        · exact lay_tab h6 hl hf _ (e5 h6)
        · exact lay_none (by omega) h6 h1 h2 hl hf _ (e4 (by omega) h6)
theorem lay_len {r : Rc} (hf : Fit r) : (lay r).length ≤ 2000 := by
  obtain ⟨f1, f2, f3, f4⟩ := hf
  have s1 : r.before.data.toList.length = r.before.size := rfl
  have s2 : r.after.data.toList.length = r.after.size := rfl
  unfold lay encTab
  split <;> split <;> split <;> split <;> simp only [List.length_append, List.length_cons, List.length_nil, beI_len, flat3_len, flat2_len, s1, s2] <;> omega
theorem May.fit {r : Rc} (h : May r) : Fit r := by
  cases h with
  | upd ht hn hp hs hb => obtain ⟨_, _, h3, _⟩ := hs; refine ⟨?_, ?_, ?_, ?_⟩ <;> simp only [Rc.upd, List.length_nil] <;> omega
  | und ht hn hp hx hs => obtain ⟨_, _, h3, _⟩ := hs; refine ⟨Nat.zero_le _, ?_, ?_, ?_⟩ <;> simp only [Rc.und, List.length_nil] <;> omega
  | com hk ht hn hp => exact ⟨Nat.zero_le _, Nat.zero_le _, Nat.zero_le _, Nat.zero_le _⟩
  | beg => exact ⟨Nat.zero_le _, Nat.zero_le _, Nat.zero_le _, Nat.zero_le _⟩
  | tab hb ht hp h3 h2 => refine ⟨Nat.zero_le _, Nat.zero_le _, ?_, ?_⟩ <;> simp only [Rc.tab] <;> omega

theorem readR_lay (r : Rc) : readR ⟨(lay r).toArray⟩ 0 = readOut ⟨(lay r).toArray⟩ (recP (lay r)) := by
  unfold readR
  rw [if_neg (by omega)]
  simp

theorem rdRead_as (s : ByteArray) (at_ : Int) (w : World) {r : Rc} {n er : Int} (hx : readR s at_ = (r, n, er)) (hs : s.size ≤ maxLen) :
    Calls Try.prog 47 #[.string s, .int .i64 at_] w fun e w' => ∃ v, e = .returned (.tuple #[v, .int .i64 n, .int .i64 er]) ∧ IsRec w' v r ∧ Below w.heap.size w w' := by
  have := rdRead_any s at_ w hs
  rw [hx] at this
  exact this


set_option maxRecDepth 100000 in
set_option maxHeartbeats 8000000 in
theorem print_yes {w : World} {v : Value} {r : Rc} (hv : IsRec w v r) (hm : May r) :
    Calls Try.prog 30 #[v] w fun e w' => e = .returned (.tuple #[.string ⟨(lay r).toArray⟩, .int .i64 0]) ∧ Below w.heap.size w w' := by
  have hf := hm.fit
  have HL := Lib.hid (fun W (hb : Below w.heap.size w W) => lay_any (hv.keep hb) hf)
  have hrr := readR_lay r
  have hp := recP_lay hm []
  rw [List.append_nil] at hp
  rw [hp] at hrr
  change _ = (r, ((⟨(lay r).toArray⟩ : ByteArray).size : Int) - (([] : List UInt8).length : Int), (0 : Int)) at hrr
  generalize ((⟨(lay r).toArray⟩ : ByteArray).size : Int) - (([] : List UInt8).length : Int) = nn at hrr
  have hlen := lay_len hf
  have HR := Lib.hid (fun W => rdRead_as ⟨(lay r).toArray⟩ 0 W hrr (by rw [show (⟨(lay r).toArray⟩ : ByteArray).size = (lay r).length from by simp [ByteArray.size]]; unfold maxLen; omega))
  have HV := Lib.hid hv
  obtain ⟨vt, vp, rfl, hl⟩ := hv
  have B0 := Lib.hid (Blk.new w 50 (recCells r vt vp))
  have hb0 : Below w.heap.size w (w.alloc (.cells (recCells r vt vp) 50)) := (Below.refl _ _).alloc (Nat.le_refl _) _
  have HB0 := Lib.hid hb0
  clear hl hb0 hrr hf hlen hp hm
  generalize (⟨(lay r).toArray⟩ : ByteArray) = s at *
  unfold recV
  go_enter Try.func30, Try.ntmps30
  have bx := B0.out
  go_wp2_with (refine wpList_load_row rfl 50 _ rfl w.heap.size rfl 50 _ (0, 0) _ bx Try.underlying50 rfl (by kernel_rfl) ?_)
  clear bx
  refine (HL.out _ HB0.out).mono ?_
  rintro e w1 ⟨rfl, hb1⟩
  have B1 := Lib.hid (B0.out.keep hb1 B0.out.lt)
  have HB1 := Lib.hid (HB0.out.trans (hb1.mono HB0.out.size))
  clear hb1 HL B0 HB0
  go_wp2_with fail
  refine (HR.out _).mono ?_
  rintro e w2 ⟨v', rfl, ⟨vt', vp', hv', hl'⟩, hb2⟩
  subst hv'
  have B2 := B1.out.keep hb2 B1.out.lt
  have HB2 := Lib.hid (HB1.out.trans (hb2.mono HB1.out.size))
  have one := hl'.one
  have hn := Blk.new w2 50 (recCells .nil (.slice none 0 0) (.slice none 0 0))
  have B3 := (B2.alloc (.cells (recCells .nil (.slice none 0 0) (.slice none 0 0)) 50)).farRow (k := w2.heap.size) (by have := B2.lt; omega) (recCells r vt' vp')
  have N3 := hn.setRow (recCells r vt' vp')
  have hb3 : Below w2.heap.size w2 ((w2.alloc (.cells (recCells .nil (.slice none 0 0) (.slice none 0 0)) 50)).setRow w2.heap.size (recCells r vt' vp')) := below_setRow ((Below.refl _ _).alloc (Nat.le_refl _) _) (Nat.le_refl _) _
  have HL3 := Lib.hid (hl'.keep hb3)
  have HB3 := Lib.hid (HB2.out.trans (hb3.mono HB2.out.size))
  clear hb2 hl' B2 hb3 B1 HB1 HR HB2
  go_wp2_with (first
    | (refine wpList_store_row rfl 50 _ _ rfl w2.heap.size _ rfl rfl 50 _ hn (by kernel_rfl) rfl one ?_)
    | (refine wpList_load_rowG rfl 50 _ rfl w2.heap.size rfl 50 _ (0, 0) _ N3 Try.underlying50 rfl (by kernel_rfl) ?_)
    | (refine wpList_load_rowG rfl 50 _ rfl w.heap.size rfl 50 _ (0, 0) _ B3 Try.underlying50 rfl (by kernel_rfl) ?_))
  refine (same_any (a := r) (b := r) ⟨vt', vp', rfl, HL3.out⟩ (HV.out.keep HB3.out) true (by simp)).mono ?_
  rintro e w4 ⟨rfl, hb4⟩
  have LB := Lib.hid (HB3.out.trans (hb4.mono HB3.out.size))
  clear hb4 HL3 HB3 B3 N3 hn HV one
  go_wp2
  go_ret2
  exact ⟨rfl, LB.out⟩

set_option maxRecDepth 100000 in
set_option maxHeartbeats 8000000 in
theorem print_neq {w : World} {v : Value} {r : Rc} (hv : IsRec w v r) (hf : Fit r) {x : Rc} {l : List UInt8} (hp : recP (lay r) = some (x, l)) (hne : ¬ x = r) :
    Calls Try.prog 30 #[v] w fun e w' => e = .returned (.tuple #[.string ⟨#[]⟩, .int .i64 1]) ∧ Below w.heap.size w w' := by
  have HL := Lib.hid (fun W (hb : Below w.heap.size w W) => lay_any (hv.keep hb) hf)
  have hrr := readR_lay r
  rw [hp] at hrr
  change _ = (x, ((⟨(lay r).toArray⟩ : ByteArray).size : Int) - (l.length : Int), (0 : Int)) at hrr
  generalize ((⟨(lay r).toArray⟩ : ByteArray).size : Int) - (l.length : Int) = nn at hrr
  have HNE := Lib.hid hne
  have hlen := lay_len hf
  have HR := Lib.hid (fun W => rdRead_as ⟨(lay r).toArray⟩ 0 W hrr (by rw [show (⟨(lay r).toArray⟩ : ByteArray).size = (lay r).length from by simp [ByteArray.size]]; unfold maxLen; omega))
  have HV := Lib.hid hv
  obtain ⟨vt, vp, rfl, hl⟩ := hv
  have B0 := Lib.hid (Blk.new w 50 (recCells r vt vp))
  have hb0 : Below w.heap.size w (w.alloc (.cells (recCells r vt vp) 50)) := (Below.refl _ _).alloc (Nat.le_refl _) _
  have HB0 := Lib.hid hb0
  clear hl hb0 hrr hf hlen hp hne
  generalize (⟨(lay r).toArray⟩ : ByteArray) = s at *
  unfold recV
  go_enter Try.func30, Try.ntmps30
  have bx := B0.out
  go_wp2_with (refine wpList_load_row rfl 50 _ rfl w.heap.size rfl 50 _ (0, 0) _ bx Try.underlying50 rfl (by kernel_rfl) ?_)
  clear bx
  refine (HL.out _ HB0.out).mono ?_
  rintro e w1 ⟨rfl, hb1⟩
  have B1 := Lib.hid (B0.out.keep hb1 B0.out.lt)
  have HB1 := Lib.hid (HB0.out.trans (hb1.mono HB0.out.size))
  clear hb1 HL B0 HB0
  go_wp2_with fail
  refine (HR.out _).mono ?_
  rintro e w2 ⟨v', rfl, ⟨vt', vp', hv', hl'⟩, hb2⟩
  subst hv'
  have B2 := B1.out.keep hb2 B1.out.lt
  have HB2 := Lib.hid (HB1.out.trans (hb2.mono HB1.out.size))
  have one := hl'.one
  have hn := Blk.new w2 50 (recCells .nil (.slice none 0 0) (.slice none 0 0))
  have B3 := (B2.alloc (.cells (recCells .nil (.slice none 0 0) (.slice none 0 0)) 50)).farRow (k := w2.heap.size) (by have := B2.lt; omega) (recCells x vt' vp')
  have N3 := hn.setRow (recCells x vt' vp')
  have hb3 : Below w2.heap.size w2 ((w2.alloc (.cells (recCells .nil (.slice none 0 0) (.slice none 0 0)) 50)).setRow w2.heap.size (recCells x vt' vp')) := below_setRow ((Below.refl _ _).alloc (Nat.le_refl _) _) (Nat.le_refl _) _
  have HL3 := Lib.hid (hl'.keep hb3)
  have HB3 := Lib.hid (HB2.out.trans (hb3.mono HB2.out.size))
  clear hb2 hl' B2 hb3 B1 HB1 HR HB2
  go_wp2_with (first
    | (refine wpList_store_row rfl 50 _ _ rfl w2.heap.size _ rfl rfl 50 _ hn (by kernel_rfl) rfl one ?_)
    | (refine wpList_load_rowG rfl 50 _ rfl w2.heap.size rfl 50 _ (0, 0) _ N3 Try.underlying50 rfl (by kernel_rfl) ?_)
    | (refine wpList_load_rowG rfl 50 _ rfl w.heap.size rfl 50 _ (0, 0) _ B3 Try.underlying50 rfl (by kernel_rfl) ?_))
  refine (same_any (a := x) (b := r) ⟨vt', vp', rfl, HL3.out⟩ (HV.out.keep HB3.out) false (by simpa using HNE.out)).mono ?_
  rintro e w4 ⟨rfl, hb4⟩
  have LB := Lib.hid (HB3.out.trans (hb4.mono HB3.out.size))
  clear hb4 HL3 HB3 B3 N3 hn HV one
  go_wp2
  go_ret2
  exact ⟨rfl, LB.out⟩

set_option maxRecDepth 100000 in
set_option maxHeartbeats 8000000 in
theorem print_err {w : World} {v : Value} {r : Rc} (hv : IsRec w v r) (hf : Fit r) (hp : recP (lay r) = none) :
    Calls Try.prog 30 #[v] w fun e w' => e = .returned (.tuple #[.string ⟨#[]⟩, .int .i64 1]) ∧ Below w.heap.size w w' := by
  have HL := Lib.hid (fun W (hb : Below w.heap.size w W) => lay_any (hv.keep hb) hf)
  have hrr := readR_lay r
  rw [hp] at hrr
  change _ = (Rc.nil, (0 : Int), (3 : Int)) at hrr
  have hlen := lay_len hf
  have HR := Lib.hid (fun W => rdRead_as ⟨(lay r).toArray⟩ 0 W hrr (by rw [show (⟨(lay r).toArray⟩ : ByteArray).size = (lay r).length from by simp [ByteArray.size]]; unfold maxLen; omega))
  have HV := Lib.hid hv
  obtain ⟨vt, vp, rfl, hl⟩ := hv
  have B0 := Lib.hid (Blk.new w 50 (recCells r vt vp))
  have hb0 : Below w.heap.size w (w.alloc (.cells (recCells r vt vp) 50)) := (Below.refl _ _).alloc (Nat.le_refl _) _
  have HB0 := Lib.hid hb0
  clear hl hb0 hrr hf hlen hp
  generalize (⟨(lay r).toArray⟩ : ByteArray) = s at *
  unfold recV
  go_enter Try.func30, Try.ntmps30
  have bx := B0.out
  go_wp2_with (refine wpList_load_row rfl 50 _ rfl w.heap.size rfl 50 _ (0, 0) _ bx Try.underlying50 rfl (by kernel_rfl) ?_)
  clear bx
  refine (HL.out _ HB0.out).mono ?_
  rintro e w1 ⟨rfl, hb1⟩
  have B1 := Lib.hid (B0.out.keep hb1 B0.out.lt)
  have HB1 := Lib.hid (HB0.out.trans (hb1.mono HB0.out.size))
  clear hb1 HL B0 HB0
  go_wp2_with fail
  refine (HR.out _).mono ?_
  rintro e w2 ⟨v', rfl, ⟨vt', vp', hv', hl'⟩, hb2⟩
  subst hv'
  have B2 := B1.out.keep hb2 B1.out.lt
  have HB2 := Lib.hid (HB1.out.trans (hb2.mono HB1.out.size))
  have one := hl'.one
  have hn := Blk.new w2 50 (recCells .nil (.slice none 0 0) (.slice none 0 0))
  have B3 := (B2.alloc (.cells (recCells .nil (.slice none 0 0) (.slice none 0 0)) 50)).farRow (k := w2.heap.size) (by have := B2.lt; omega) (recCells Rc.nil vt' vp')
  have N3 := hn.setRow (recCells Rc.nil vt' vp')
  have hb3 : Below w2.heap.size w2 ((w2.alloc (.cells (recCells .nil (.slice none 0 0) (.slice none 0 0)) 50)).setRow w2.heap.size (recCells Rc.nil vt' vp')) := below_setRow ((Below.refl _ _).alloc (Nat.le_refl _) _) (Nat.le_refl _) _
  have HL3 := Lib.hid (hl'.keep hb3)
  have HB3 := Lib.hid (HB2.out.trans (hb3.mono HB2.out.size))
  clear hb2 hl' B2 hb3 B1 HB1 HR HB2
  clear B3 N3
  go_wp2_with (refine wpList_store_row rfl 50 _ _ rfl w2.heap.size _ rfl rfl 50 _ hn (by kernel_rfl) rfl one ?_)
  go_ret2
  exact ⟨rfl, HB3.out⟩

theorem print_no {w : World} {v : Value} {r : Rc} (hv : IsRec w v r) (hf : Fit r) (hm : ¬ May r) :
    Calls Try.prog 30 #[v] w fun e w' => e = .returned (.tuple #[.string ⟨#[]⟩, .int .i64 1]) ∧ Below w.heap.size w w' := by
  cases hp : recP (lay r) with
  | none => exact print_err hv hf hp
  | some x =>
    obtain ⟨x, l⟩ := x
    refine print_neq hv hf hp ?_
    rintro rfl
    exact hm (recP_some hp).1
end Go.Proofs.Ytpcfhpffbogjmaa
