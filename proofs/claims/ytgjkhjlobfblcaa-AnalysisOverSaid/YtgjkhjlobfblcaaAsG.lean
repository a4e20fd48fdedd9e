/- Stage 13: awake: what the document fixes. -/
import Derived.Test.YtgjkhjlobfblcaaAsZ
import Derived.Test.YtgjkhjlobfblcaaAsF
import Derived.Test.YtgjkhjlobfblcaaQx
import Derived.Test.YtgjkhjlobfblcaaSame8
import Derived.Test.YtgjkhjlobfblcaaSame10
namespace Go.Proofs.Ytgjkhjlobfblcaa
open Go.RowKit
set_option linter.unusedSimpArgs false

def a13V : Array Value := #[.int .i64 128, .int .i64 1, .int .i64 1, .int .i64 2, .int .i64 0, .int .i64 0, .int .i64 0, .int .i64 0, .string ⟨#[]⟩, .string ⟨#[]⟩, .slice none 0 0, .slice none 0 0,
  .int .i64 150, .int .i64 1, .int .i64 2, .int .i64 0, .int .i64 0, .int .i64 0, .int .i64 0, .int .i64 0, .string ⟨#[]⟩, .string ⟨#[]⟩, .slice none 0 0, .slice none 0 0,
  .int .i64 170, .int .i64 3, .int .i64 1, .int .i64 0, .int .i64 0, .int .i64 0, .int .i64 0, .int .i64 0, .string ⟨#[]⟩, .string ⟨#[]⟩, .slice none 0 0, .slice none 0 0]
theorem a13_ents {w : World} {g : Nat} (h : Blk w g 30 a13V) : IsEnts w (.slice (some ⟨g, 0, none⟩) 3 3) An.Aw.l :=
  ents_laid h An.Aw.l (by decide) (by decide) fun j hj => match j, hj with
    | 0, _ => lt12 ⟨rfl, rfl, rfl, rfl, rfl, rfl, rfl, rfl, rfl, rfl, rfl, rfl⟩
    | 1, _ => lt12 ⟨rfl, rfl, rfl, rfl, rfl, rfl, rfl, rfl, rfl, rfl, rfl, rfl⟩
    | 2, _ => lt12 ⟨rfl, rfl, rfl, rfl, rfl, rfl, rfl, rfl, rfl, rfl, rfl, rfl⟩
theorem a13_keys : (An.keysT An.Aw.l).length ≤ 1000000 ∧ (An.keysP An.Aw.l).length ≤ 1000000 := by decide
set_option maxRecDepth 100000 in
set_option maxHeartbeats 8000000 in
theorem awake13 (w : World) : Calls Try.prog 5 #[] w fun e w' => e = .returned (.bool true) ∧ Below w.heap.size w w' := by
  go_enter Try.func5, Try.ntmps5
  go_upto_region 2 with fail
  change Code.wp _ _ _ _ (w.alloc (.cells a13V 30))
  have e3 := Blk.new w 30 a13V
  have b3 : Below w.heap.size w (w.alloc (.cells a13V 30)) := (Below.refl _ _).alloc (Nat.le_refl _) _
  have I3 := a13_ents e3
  generalize w.alloc (.cells a13V 30) = w3 at *
  have HB3 := Lib.hid b3
  have H3 := Lib.hid I3
  have C1 := Lib.hid (asTables I3 0 (by decide) a13_keys)
  clear b3 I3 e3
  go_wp2_with fail
  refine C1.out.mono ?_
  clear C1
  rintro e w4 ⟨hb, ⟨h, _⟩ | ⟨_, vt, vp, T, P, rfl, t1, p1, t2, p2, _⟩⟩
  · exact absurd An.Aw.e0 h
  obtain rfl := t1.unique An.Aw.tells
  obtain rfl := p1.unique An.Aw.tellsP
  have H4 := Lib.hid (H3.out.keep hb)
  have HB4 := Lib.hid (below2 HB3.out hb)
  have C2 := Lib.hid (asTables H4.out 150 (by decide) a13_keys)
  have T4 := Lib.hid t2
  have P4 := Lib.hid p2
  obtain ⟨ta, tc, rfl⟩ := t2.form
  obtain ⟨pa, pc, rfl⟩ := p2.form
  clear hb HB3 H3 t1 p1 t2 p2
  go_wp2_with fail
  refine C2.out.mono ?_
  clear C2
  rintro e w5 ⟨hb, ⟨_, rfl⟩ | ⟨h, _⟩⟩
  rotate_left
  · rw [An.Aw.e150] at h; cases h
  rw [An.Aw.e150]
  have HB5 := Lib.hid (below2 HB4.out hb)
  have T5 := Lib.hid (T4.out.keep hb)
  have P5 := Lib.hid (P4.out.keep hb)
  clear hb HB4 H4 T4 P4
  go_wp2_with fail
  have n5 := Blk.new w5 44 #[.int .i64 2, .int .i64 150, .int .i64 150]
  have b5 : Below w5.heap.size w5 (w5.alloc (.cells #[.int .i64 2, .int .i64 150, .int .i64 150] 44)) := (Below.refl _ _).alloc (Nat.le_refl _) _
  have en : Elems (w5.alloc (.cells #[.int .i64 2, .int .i64 150, .int .i64 150] 44)) (.slice (some ⟨w5.heap.size, 0, none⟩) 1 1) 1 (rows3 An.Aw.T) := ⟨_, _, rfl, Nat.le_refl _, by unfold maxLen; decide, fun j x hj => ⟨_, 0, rfl, by rw [Nat.zero_add, n5.cell j, ← hj, ← List.getElem?_toArray]; rfl⟩⟩
  refine (refSame10E (l := An.Aw.T) (T5.out.keep b5) en (by decide)).mono ?_
  rintro e w6 ⟨rfl, hb⟩
  have HB6 := Lib.hid ((below2 HB5.out b5).trans (hb.mono (below2 HB5.out b5).size))
  have T6 := Lib.hid ((T5.out.keep b5).keep hb)
  have P6 := Lib.hid ((P5.out.keep b5).keep hb)
  clear hb b5 n5 en HB5 T5 P5
  go_wp2_with fail
  have n6 := Blk.new w6 42 #[.int .i64 0, .int .i64 150, .int .i64 2, .int .i64 128]
  have b6 : Below w6.heap.size w6 (w6.alloc (.cells #[.int .i64 0, .int .i64 150, .int .i64 2, .int .i64 128] 42)) := (Below.refl _ _).alloc (Nat.le_refl _) _
  have en : Elems (w6.alloc (.cells #[.int .i64 0, .int .i64 150, .int .i64 2, .int .i64 128] 42)) (.slice (some ⟨w6.heap.size, 0, none⟩) 2 2) 2 (rows2 An.Aw.P) := ⟨_, _, rfl, Nat.le_refl _, by unfold maxLen; decide, fun j x hj => ⟨_, 0, rfl, by rw [Nat.zero_add, n6.cell j, ← hj, ← List.getElem?_toArray]; rfl⟩⟩
  refine (rqSameE (L := An.Aw.P) (P6.out.keep b6) en (by decide)).mono ?_
  rintro e w7 ⟨rfl, hb⟩
  have HB7 := Lib.hid ((below2 HB6.out b6).trans (hb.mono (below2 HB6.out b6).size))
  have T7 := Lib.hid ((T6.out.keep b6).keep hb)
  have P7 := Lib.hid ((P6.out.keep b6).keep hb)
  clear hb b6 n6 en HB6 T6 P6
  go_wp2_with fail
  have C8 := asFrom P7.out 0
  rw [An.Aw.from_] at C8
  refine C8.mono ?_
  clear C8
  rintro e w8 ⟨rfl, hb⟩
  have HB8 := Lib.hid (below2 HB7.out hb)
  have C9 := asHorizon (T7.out.keep hb) (P7.out.keep hb) 200
  rw [An.Aw.hor] at C9
  have C9 := Lib.hid C9
  clear hb HB7 T7 P7
  go_wp2_with fail
  refine C9.out.mono ?_
  clear C9
  rintro e w9 ⟨rfl, hb⟩
  have HB9 := Lib.hid (below2 HB8.out hb)
  clear hb HB8
  go_wp2
  go_ret
  exact ⟨rfl, HB9.out⟩
end Go.Proofs.Ytgjkhjlobfblcaa
