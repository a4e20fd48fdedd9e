/- Entries: records, each with its place, in a slice. -/
import Derived.Test.YtpcfhpffbogjmaaRecK
import Derived.Test.YtpcfhpffbogjmaaRegion
namespace Go.Proofs.Ytpcfhpffbogjmaa
open Go.RowKit

abbrev Ent := Int × Rc
def EntsAt (w : World) (a : Option Addr) (l : List Ent) : Prop :=
  ∀ j (hj : j < l.length), ∃ b off vt vp, a = some ⟨b, off, none⟩ ∧ b < w.heap.size ∧ w.cell? ⟨b, off + j * 12, none⟩ = some (.int .i64 l[j].1) ∧
    (∀ i x, (recCells l[j].2 vt vp)[i]? = some x → w.cell? ⟨b, off + j * 12 + 1 + i, none⟩ = some x) ∧ Lists w l[j].2 vt vp
theorem EntsAt.keep {w w' : World} {a : Option Addr} {l : List Ent} (h : EntsAt w a l) (hb : Below w.heap.size w w') : EntsAt w' a l := by
  intro j hj
  obtain ⟨b, off, vt, vp, rfl, hlt, c0, ci, hl⟩ := h j hj
  refine ⟨b, off, vt, vp, rfl, Nat.lt_of_lt_of_le hlt hb.size, ?_, fun i x hi => ?_, hl.keep hb⟩
  · rw [hb.cell (p := ⟨b, off + j * 12, none⟩) hlt]; exact c0
  · rw [hb.cell (p := ⟨b, off + j * 12 + 1 + i, none⟩) hlt]; exact ci i x hi
def IsEnts (w : World) (v : Value) (l : List Ent) : Prop :=
  ∃ (a : Option Addr) (cap : Nat), v = .slice a l.length cap ∧ l.length ≤ cap ∧ cap ≤ maxLen ∧ EntsAt w a l
namespace IsEnts
variable {w w' : World} {v : Value} {l : List Ent}
theorem nil (w : World) : IsEnts w (.slice none 0 0) [] := ⟨none, 0, rfl, Nat.le_refl _, Nat.zero_le _, fun j hj => by simp at hj⟩
theorem keep (h : IsEnts w v l) (hb : Below w.heap.size w w') : IsEnts w' v l := by
  obtain ⟨a, cap, rfl, h1, h2, hx⟩ := h
  exact ⟨a, cap, rfl, h1, h2, hx.keep hb⟩
end IsEnts

theorem ents_at {l m : List Ent} (h : l = m) (j : Nat) (hj : j < l.length) (hm : j < m.length) : l[j] = m[j] := by subst h; rfl
theorem ents_eq {l m : List Ent} (hn : l.length = m.length) (h : ∀ j (hj : j < l.length) (hm : j < m.length), j < l.length → l[j] = m[j]) : l = m := List.ext_getElem hn fun j h1 h2 => h j h1 h2 h1

set_option maxRecDepth 100000 in
set_option maxHeartbeats 16000000 in
theorem refSameAll_any {w : World} {va vb : Value} {l m : List Ent} (ha : IsEnts w va l) (hb : IsEnts w vb m) (yes : Bool) (hy : yes = decide (l = m)) :
    Calls Try.prog 18 #[va, vb] w fun e w' => e = .returned (.bool yes) ∧ Below w.heap.size w w' := by
  have HA := Lib.hid ha
  have HB := Lib.hid hb
  obtain ⟨a, ca, rfl, hl1, hl2, hax⟩ := ha
  obtain ⟨b, cb, rfl, hm1, hm2, hbx⟩ := hb
  have AX := Lib.hid hax
  have BXX := Lib.hid hbx
  unfold maxLen at hl2 hm2
  have HY := Lib.hid hy
  clear hy hax hbx HA HB
  by_cases hn : l.length = m.length
  · rw [hn]
    go_enter Try.func18, Try.ntmps18
    go_wp2_with fail
    have EA := AX
    have EB := BXX
    clear AX BXX
    go_loopw [5] (fun vk wr => ∃ k : Nat, k ≤ m.length ∧ vk = .int .i64 k ∧ (∀ j (hj : j < l.length) (hm : j < m.length), j < k → l[j] = m[j]) ∧ Below w.heap.size w wr) (fun vk _ => m.length - (intOf vk).toNat)
    case atStart => exact ⟨0, Nat.zero_le _, rfl, fun j _ _ h => by omega, Below.refl _ _⟩
    case round =>
      obtain ⟨k, hk, rfl, hno, hB⟩ := hrel
      have HNO := Lib.hid hno
      have HBK := Lib.hid hB
      clear hno hB
      by_cases hlt2 : k < m.length
      · have hlt : k < l.length := by omega
        obtain ⟨b1, o1, vt, vp, rfl, lt1, d0, da, la⟩ := (EA.out.keep HBK.out) k hlt
        obtain ⟨b2, o2, ut, up, rfl, lt2, d1, db, lb⟩ := (EB.out.keep HBK.out) k hlt2
        have LA := Lib.hid la
        have LB := Lib.hid lb
        have HKK : Hid (l[k] = m[k] → ∀ j (hj : j < l.length) (hm : j < m.length), j < k + 1 → l[j] = m[j]) := fun h j hj hm hjk => by
          by_cases e : j = k
          · subst e; exact h
          · exact HNO.out j hj hm (by omega)
        have HNN : Hid (¬ l[k] = m[k] → yes = false) := fun h => by rw [HY.out]; exact decide_eq_false fun e => h (ents_at e k hlt hlt2)
        have HEQ : Hid (l[k] = m[k] ↔ l[k].1 = m[k].1 ∧ l[k].2 = m[k].2) := ⟨fun h => by rw [h]; exact ⟨rfl, rfl⟩, fun h => Prod.ext h.1 h.2⟩
        have EX := Lib.hid (show ∀ W, Below wr.drew.heap.size wr.drew W → W.cell? ⟨b1, o1 + k * 12, none⟩ = some (.int .i64 l[k].1) ∧ W.cell? ⟨b2, o2 + k * 12, none⟩ = some (.int .i64 m[k].1) from
          fun W h => ⟨(h.cell (p := ⟨b1, o1 + k * 12, none⟩) lt1).trans d0, (h.cell (p := ⟨b2, o2 + k * 12, none⟩) lt2).trans d1⟩)
        generalize (l[k] = m[k]) = EQ at *
        generalize l[k].1 = e1 at *
        generalize l[k].2 = x at *
        generalize m[k].1 = e2 at *
        generalize m[k].2 = y at *
        have AR := Lib.hid (show ∀ W, Below wr.drew.heap.size wr.drew W → W.cell? ⟨b1, o1 + k * 12 + 1, none⟩ = some (.int .i64 x.kind) ∧ W.cell? ⟨b1, o1 + k * 12 + 1 + 1, none⟩ = some (.int .i64 x.txn) ∧ W.cell? ⟨b1, o1 + k * 12 + 1 + 2, none⟩ = some (.int .i64 x.page) ∧ W.cell? ⟨b1, o1 + k * 12 + 1 + 3, none⟩ = some (.int .i64 x.off) ∧ W.cell? ⟨b1, o1 + k * 12 + 1 + 4, none⟩ = some (.int .i64 x.prev) ∧ W.cell? ⟨b1, o1 + k * 12 + 1 + 5, none⟩ = some (.int .i64 x.next) ∧ W.cell? ⟨b1, o1 + k * 12 + 1 + 6, none⟩ = some (.int .i64 x.beg) ∧ W.cell? ⟨b1, o1 + k * 12 + 1 + 7, none⟩ = some (.string x.before) ∧ W.cell? ⟨b1, o1 + k * 12 + 1 + 8, none⟩ = some (.string x.after) ∧ W.cell? ⟨b1, o1 + k * 12 + 1 + 9, none⟩ = some vt ∧ W.cell? ⟨b1, o1 + k * 12 + 1 + 10, none⟩ = some vp from
          fun W h => ⟨(h.cell (p := ⟨b1, o1 + k * 12 + 1 + 0, none⟩) lt1).trans (da 0 _ rfl), (h.cell (p := ⟨b1, o1 + k * 12 + 1 + 1, none⟩) lt1).trans (da 1 _ rfl), (h.cell (p := ⟨b1, o1 + k * 12 + 1 + 2, none⟩) lt1).trans (da 2 _ rfl), (h.cell (p := ⟨b1, o1 + k * 12 + 1 + 3, none⟩) lt1).trans (da 3 _ rfl), (h.cell (p := ⟨b1, o1 + k * 12 + 1 + 4, none⟩) lt1).trans (da 4 _ rfl), (h.cell (p := ⟨b1, o1 + k * 12 + 1 + 5, none⟩) lt1).trans (da 5 _ rfl), (h.cell (p := ⟨b1, o1 + k * 12 + 1 + 6, none⟩) lt1).trans (da 6 _ rfl), (h.cell (p := ⟨b1, o1 + k * 12 + 1 + 7, none⟩) lt1).trans (da 7 _ rfl), (h.cell (p := ⟨b1, o1 + k * 12 + 1 + 8, none⟩) lt1).trans (da 8 _ rfl), (h.cell (p := ⟨b1, o1 + k * 12 + 1 + 9, none⟩) lt1).trans (da 9 _ rfl), (h.cell (p := ⟨b1, o1 + k * 12 + 1 + 10, none⟩) lt1).trans (da 10 _ rfl)⟩)
        have BR := Lib.hid (show ∀ W, Below wr.drew.heap.size wr.drew W → W.cell? ⟨b2, o2 + k * 12 + 1, none⟩ = some (.int .i64 y.kind) ∧ W.cell? ⟨b2, o2 + k * 12 + 1 + 1, none⟩ = some (.int .i64 y.txn) ∧ W.cell? ⟨b2, o2 + k * 12 + 1 + 2, none⟩ = some (.int .i64 y.page) ∧ W.cell? ⟨b2, o2 + k * 12 + 1 + 3, none⟩ = some (.int .i64 y.off) ∧ W.cell? ⟨b2, o2 + k * 12 + 1 + 4, none⟩ = some (.int .i64 y.prev) ∧ W.cell? ⟨b2, o2 + k * 12 + 1 + 5, none⟩ = some (.int .i64 y.next) ∧ W.cell? ⟨b2, o2 + k * 12 + 1 + 6, none⟩ = some (.int .i64 y.beg) ∧ W.cell? ⟨b2, o2 + k * 12 + 1 + 7, none⟩ = some (.string y.before) ∧ W.cell? ⟨b2, o2 + k * 12 + 1 + 8, none⟩ = some (.string y.after) ∧ W.cell? ⟨b2, o2 + k * 12 + 1 + 9, none⟩ = some ut ∧ W.cell? ⟨b2, o2 + k * 12 + 1 + 10, none⟩ = some up from
          fun W h => ⟨(h.cell (p := ⟨b2, o2 + k * 12 + 1 + 0, none⟩) lt2).trans (db 0 _ rfl), (h.cell (p := ⟨b2, o2 + k * 12 + 1 + 1, none⟩) lt2).trans (db 1 _ rfl), (h.cell (p := ⟨b2, o2 + k * 12 + 1 + 2, none⟩) lt2).trans (db 2 _ rfl), (h.cell (p := ⟨b2, o2 + k * 12 + 1 + 3, none⟩) lt2).trans (db 3 _ rfl), (h.cell (p := ⟨b2, o2 + k * 12 + 1 + 4, none⟩) lt2).trans (db 4 _ rfl), (h.cell (p := ⟨b2, o2 + k * 12 + 1 + 5, none⟩) lt2).trans (db 5 _ rfl), (h.cell (p := ⟨b2, o2 + k * 12 + 1 + 6, none⟩) lt2).trans (db 6 _ rfl), (h.cell (p := ⟨b2, o2 + k * 12 + 1 + 7, none⟩) lt2).trans (db 7 _ rfl), (h.cell (p := ⟨b2, o2 + k * 12 + 1 + 8, none⟩) lt2).trans (db 8 _ rfl), (h.cell (p := ⟨b2, o2 + k * 12 + 1 + 9, none⟩) lt2).trans (db 9 _ rfl), (h.cell (p := ⟨b2, o2 + k * 12 + 1 + 10, none⟩) lt2).trans (db 10 _ rfl)⟩)
        clear la lb d0 d1 da db
        by_cases he : e1 = e2
        · subst he
          generalize hsm : decide (x = y) = sm
          have HSM := Lib.hid hsm.symm
          clear hsm
          go_wp2_with fail
          refine' wp_region_conf 25 (.is _ :: .is _ :: .is _ :: .is _ :: .is _ :: .is _ :: .is _ :: .is _ :: .is _ :: .is _ :: .is _ :: .is _ :: .is _ :: .is _ :: .is _ :: .is _ :: .is _ :: .is _ :: .is _ :: .is _ :: .is _ :: .is _ :: .is _ :: .is _ :: .is _ :: []) (by kernel_rfl) (by kernel_rfl) (by kernel_rfl) (by kernel_rfl) rfl ?main
          case main =>
            apply obs_step
            · rfl
            · intro w4 hE4 hk
              clear hk hE4

              go_wp2

              refine post_eq ?_ (Below.refl _ _)
              simp only [Act.put, List.setIfInBounds_toArray, List.set_cons_zero, List.set_cons_succ]
              try rfl
            · simp only [Act.put, List.setIfInBounds_toArray, List.set_cons_zero, List.set_cons_succ]
              rfl
            apply obs_step
            · rfl
            · intro w4 hE4 hk
              clear hk hE4

              go_wp2

              refine post_eq ?_ (Below.refl _ _)
              simp only [Act.put, List.setIfInBounds_toArray, List.set_cons_zero, List.set_cons_succ]
              try rfl
            · simp only [Act.put, List.setIfInBounds_toArray, List.set_cons_zero, List.set_cons_succ]
              rfl
            apply obs_step
            · rfl
            · intro w4 hE4 hk
              clear hk hE4

              go_wp2

              refine post_eq ?_ (Below.refl _ _)
              simp only [Act.put, List.setIfInBounds_toArray, List.set_cons_zero, List.set_cons_succ]
              try rfl
            · simp only [Act.put, List.setIfInBounds_toArray, List.set_cons_zero, List.set_cons_succ]
              rfl
            apply obs_step
            · rfl
            · intro w4 hE4 hk
              clear hk hE4

              go_wp2

              refine post_eq ?_ (Below.refl _ _)
              simp only [Act.put, List.setIfInBounds_toArray, List.set_cons_zero, List.set_cons_succ]
              try rfl
            · simp only [Act.put, List.setIfInBounds_toArray, List.set_cons_zero, List.set_cons_succ]
              rfl
            apply obs_step
            · rfl
            · intro w4 hE4 hk
              have f := EX.out w4 hE4
              have f0 := f.1
              have f1 := f.2
              clear f hk hE4

              go_wp2

              refine post_eq ?_ (Below.refl _ _)
              simp only [Act.put, List.setIfInBounds_toArray, List.set_cons_zero, List.set_cons_succ]
              try rfl
            · simp only [Act.put, List.setIfInBounds_toArray, List.set_cons_zero, List.set_cons_succ]
              rfl
            apply obs_step
            · rfl
            · intro w4 hE4 hk
              clear hk hE4

              go_wp2

              refine post_eq ?_ (Below.refl _ _)
              simp only [Act.put, List.setIfInBounds_toArray, List.set_cons_zero, List.set_cons_succ]
              try rfl
            · simp only [Act.put, List.setIfInBounds_toArray, List.set_cons_zero, List.set_cons_succ]
              rfl
            apply obs_step
            · rfl
            · intro w4 hE4 hk
              clear hk hE4

              go_wp2

              refine post_eq ?_ (Below.refl _ _)
              simp only [Act.put, List.setIfInBounds_toArray, List.set_cons_zero, List.set_cons_succ]
              try rfl
            · simp only [Act.put, List.setIfInBounds_toArray, List.set_cons_zero, List.set_cons_succ]
              rfl
            apply obs_step
            · rfl
            · intro w4 hE4 hk
              clear hk hE4

              go_wp2

              refine post_eq ?_ (Below.refl _ _)
              simp only [Act.put, List.setIfInBounds_toArray, List.set_cons_zero, List.set_cons_succ]
              try rfl
            · simp only [Act.put, List.setIfInBounds_toArray, List.set_cons_zero, List.set_cons_succ]
              rfl
            apply obs_step
            · rfl
            · intro w4 hE4 hk
              clear hk hE4

              go_wp2

              refine post_eq ?_ (Below.refl _ _)
              simp only [Act.put, List.setIfInBounds_toArray, List.set_cons_zero, List.set_cons_succ]
              try rfl
            · simp only [Act.put, List.setIfInBounds_toArray, List.set_cons_zero, List.set_cons_succ]
              rfl
            apply obs_step
            · rfl
            · intro w4 hE4 hk
              have f := EX.out w4 hE4
              have f0 := f.1
              have f1 := f.2
              clear f hk hE4

              go_wp2

              refine post_eq ?_ (Below.refl _ _)
              simp only [Act.put, List.setIfInBounds_toArray, List.set_cons_zero, List.set_cons_succ]
              try rfl
            · simp only [Act.put, List.setIfInBounds_toArray, List.set_cons_zero, List.set_cons_succ]
              rfl
            apply obs_step
            · rfl
            · intro w4 hE4 hk
              clear hk hE4

              go_wp2

              refine post_eq ?_ (Below.refl _ _)
              simp only [Act.put, List.setIfInBounds_toArray, List.set_cons_zero, List.set_cons_succ]
              try rfl
            · simp only [Act.put, List.setIfInBounds_toArray, List.set_cons_zero, List.set_cons_succ]
              rfl
            apply obs_step
            · rfl
            · intro w4 hE4 hk
              clear hk hE4

              go_wp2

              refine post_eq ?_ (Below.refl _ _)
              simp only [Act.put, List.setIfInBounds_toArray, List.set_cons_zero, List.set_cons_succ]
              try rfl
            · simp only [Act.put, List.setIfInBounds_toArray, List.set_cons_zero, List.set_cons_succ]
              rfl
            apply obs_step
            · rfl
            · intro w4 hE4 hk
              clear hk hE4

              go_wp2

              refine post_eq ?_ (Below.refl _ _)
              simp only [Act.put, List.setIfInBounds_toArray, List.set_cons_zero, List.set_cons_succ]
              try rfl
            · simp only [Act.put, List.setIfInBounds_toArray, List.set_cons_zero, List.set_cons_succ]
              rfl
            apply obs_step
            · rfl
            · intro w4 hE4 hk
              clear hk hE4

              go_wp2

              refine post_eq ?_ (Below.refl _ _)
              simp only [Act.put, List.setIfInBounds_toArray, List.set_cons_zero, List.set_cons_succ]
              try rfl
            · simp only [Act.put, List.setIfInBounds_toArray, List.set_cons_zero, List.set_cons_succ]
              rfl
            apply obs_step
            · rfl
            · intro w4 hE4 hk
              clear hk hE4

              go_wp2

              refine post_eq ?_ (Below.refl _ _)
              simp only [Act.put, List.setIfInBounds_toArray, List.set_cons_zero, List.set_cons_succ]
              try rfl
            · simp only [Act.put, List.setIfInBounds_toArray, List.set_cons_zero, List.set_cons_succ]
              rfl
            apply obs_step
            · rfl
            · intro w4 hE4 hk
              clear hk hE4

              go_wp2

              refine post_eq ?_ (Below.refl _ _)
              simp only [Act.put, List.setIfInBounds_toArray, List.set_cons_zero, List.set_cons_succ]
              try rfl
            · simp only [Act.put, List.setIfInBounds_toArray, List.set_cons_zero, List.set_cons_succ]
              rfl
            apply obs_step
            · rfl
            · intro w4 hE4 hk
              obtain ⟨f0, f1, f2, f3, f4, f5, f6, f7, f8, f9, f10⟩ := AR.out w4 hE4
              clear hk hE4

              go_wp2

              refine post_eq ?_ (Below.refl _ _)
              simp only [Act.put, List.setIfInBounds_toArray, List.set_cons_zero, List.set_cons_succ]
              try rfl
            · simp only [Act.put, List.setIfInBounds_toArray, List.set_cons_zero, List.set_cons_succ]
              rfl
            apply obs_step
            · rfl
            · intro w4 hE4 hk
              clear hk hE4

              go_wp2

              refine post_eq ?_ (Below.refl _ _)
              simp only [Act.put, List.setIfInBounds_toArray, List.set_cons_zero, List.set_cons_succ]
              try rfl
            · simp only [Act.put, List.setIfInBounds_toArray, List.set_cons_zero, List.set_cons_succ]
              rfl
            apply obs_step
            · rfl
            · intro w4 hE4 hk
              clear hk hE4

              go_wp2

              refine post_eq ?_ (Below.refl _ _)
              simp only [Act.put, List.setIfInBounds_toArray, List.set_cons_zero, List.set_cons_succ]
              try rfl
            · simp only [Act.put, List.setIfInBounds_toArray, List.set_cons_zero, List.set_cons_succ]
              rfl
            apply obs_step
            · rfl
            · intro w4 hE4 hk
              clear hk hE4

              go_wp2

              refine post_eq ?_ (Below.refl _ _)
              simp only [Act.put, List.setIfInBounds_toArray, List.set_cons_zero, List.set_cons_succ]
              try rfl
            · simp only [Act.put, List.setIfInBounds_toArray, List.set_cons_zero, List.set_cons_succ]
              rfl
            apply obs_step
            · rfl
            · intro w4 hE4 hk
              clear hk hE4

              go_wp2

              refine post_eq ?_ (Below.refl _ _)
              simp only [Act.put, List.setIfInBounds_toArray, List.set_cons_zero, List.set_cons_succ]
              try rfl
            · simp only [Act.put, List.setIfInBounds_toArray, List.set_cons_zero, List.set_cons_succ]
              rfl
            apply obs_step
            · rfl
            · intro w4 hE4 hk
              obtain ⟨f0, f1, f2, f3, f4, f5, f6, f7, f8, f9, f10⟩ := BR.out w4 hE4
              clear hk hE4

              go_wp2

              refine post_eq ?_ (Below.refl _ _)
              simp only [Act.put, List.setIfInBounds_toArray, List.set_cons_zero, List.set_cons_succ]
              try rfl
            · simp only [Act.put, List.setIfInBounds_toArray, List.set_cons_zero, List.set_cons_succ]
              rfl
            apply obs_step
            · rfl
            · intro w4 hE4 hk
              have L1 := LA.out.keep (((Below.refl wr.heap.size wr).drew).trans hE4)
              have L2 := LB.out.keep (((Below.refl wr.heap.size wr).drew).trans hE4)
              clear hk hE4

              go_wp2_with fail
              refine (refSame_any (va := recV x vt vp) (vb := recV y ut up) (a := x) (b := y) ⟨vt, vp, rfl, L1⟩ ⟨ut, up, rfl, L2⟩ sm HSM.out).mono ?_
              rintro e w5 ⟨rfl, hb5⟩
              go_wp2

              refine post_eq ?_ (hb5)
              simp only [Act.put, List.setIfInBounds_toArray, List.set_cons_zero, List.set_cons_succ]
              try rfl
            · simp only [Act.put, List.setIfInBounds_toArray, List.set_cons_zero, List.set_cons_succ]
              rfl
            apply obs_step
            · rfl
            · intro w4 hE4 hk
              clear hk hE4

              go_wp2

              refine post_eq ?_ (Below.refl _ _)
              simp only [Act.put, List.setIfInBounds_toArray, List.set_cons_zero, List.set_cons_succ]
              try rfl
            · simp only [Act.put, List.setIfInBounds_toArray, List.set_cons_zero, List.set_cons_succ]
              rfl
            apply obs_step
            · rfl
            · intro w4 hE4 hk
              clear hk hE4

              go_wp2

              refine post_eq ?_ (Below.refl _ _)
              simp only [Act.put, List.setIfInBounds_toArray, List.set_cons_zero, List.set_cons_succ]
              try rfl
            · simp only [Act.put, List.setIfInBounds_toArray, List.set_cons_zero, List.set_cons_succ]
              rfl

            refine obs_end fun w6 hE6 _ => ?_
            have HBW := Lib.hid (below2 HBK.out (((Below.refl wr.heap.size wr).drew).trans hE6))
            clear HBK hE6 AR BR EX LA LB
            cases sm
            · have hno : yes = false := HNN.out fun h => absurd (HEQ.out.1 h).2 (of_decide_eq_false HSM.out.symm)
              subst hno
              clear HY HNN HKK HEQ
              go_wp2
              go_ret
              exact ⟨rfl, HBW.out⟩
            · have HN2 := Lib.hid (HKK.out (HEQ.out.2 ⟨(by first | rfl | trivial), of_decide_eq_true HSM.out.symm⟩))
              clear HNN HKK HEQ
              go_wp2
              go_roundw
              case rel => exact ⟨k + 1, by omega, by go_num, HN2.out, HBW.out⟩
              case measure => simp [intOf]; omega
        · have he' : (e1 != e2) = true := by simpa using he
          have hno : yes = false := HNN.out fun h => he (HEQ.out.1 h).1
          subst hno
          clear HY HNN HKK HEQ
          go_wp2_with fail
          refine' wp_region_conf 25 (.is _ :: .is _ :: .is _ :: .is _ :: .is _ :: .is _ :: .is _ :: .is _ :: .is _ :: .is _ :: .is _ :: .is _ :: .is undef :: .is undef :: .is undef :: .is undef :: .is undef :: .is undef :: .is undef :: .is undef :: .is undef :: .is undef :: .is undef :: .is undef :: .is _ :: []) (by kernel_rfl) (by kernel_rfl) (by kernel_rfl) (by kernel_rfl) rfl ?main
          case main =>
            apply obs_step
            · rfl
            · intro w4 hE4 hk
              clear hk hE4

              go_wp2

              refine post_eq ?_ (Below.refl _ _)
              simp only [Act.put, List.setIfInBounds_toArray, List.set_cons_zero, List.set_cons_succ]
              try rfl
            · simp only [Act.put, List.setIfInBounds_toArray, List.set_cons_zero, List.set_cons_succ]
              rfl
            apply obs_step
            · rfl
            · intro w4 hE4 hk
              clear hk hE4

              go_wp2

              refine post_eq ?_ (Below.refl _ _)
              simp only [Act.put, List.setIfInBounds_toArray, List.set_cons_zero, List.set_cons_succ]
              try rfl
            · simp only [Act.put, List.setIfInBounds_toArray, List.set_cons_zero, List.set_cons_succ]
              rfl
            apply obs_step
            · rfl
            · intro w4 hE4 hk
              clear hk hE4

              go_wp2

              refine post_eq ?_ (Below.refl _ _)
              simp only [Act.put, List.setIfInBounds_toArray, List.set_cons_zero, List.set_cons_succ]
              try rfl
            · simp only [Act.put, List.setIfInBounds_toArray, List.set_cons_zero, List.set_cons_succ]
              rfl
            apply obs_step
            · rfl
            · intro w4 hE4 hk
              clear hk hE4

              go_wp2

              refine post_eq ?_ (Below.refl _ _)
              simp only [Act.put, List.setIfInBounds_toArray, List.set_cons_zero, List.set_cons_succ]
              try rfl
            · simp only [Act.put, List.setIfInBounds_toArray, List.set_cons_zero, List.set_cons_succ]
              rfl
            apply obs_step
            · rfl
            · intro w4 hE4 hk
              have f := EX.out w4 hE4
              have f0 := f.1
              have f1 := f.2
              clear f hk hE4

              go_wp2

              refine post_eq ?_ (Below.refl _ _)
              simp only [Act.put, List.setIfInBounds_toArray, List.set_cons_zero, List.set_cons_succ]
              try rfl
            · simp only [Act.put, List.setIfInBounds_toArray, List.set_cons_zero, List.set_cons_succ]
              rfl
            apply obs_step
            · rfl
            · intro w4 hE4 hk
              clear hk hE4

              go_wp2

              refine post_eq ?_ (Below.refl _ _)
              simp only [Act.put, List.setIfInBounds_toArray, List.set_cons_zero, List.set_cons_succ]
              try rfl
            · simp only [Act.put, List.setIfInBounds_toArray, List.set_cons_zero, List.set_cons_succ]
              rfl
            apply obs_step
            · rfl
            · intro w4 hE4 hk
              clear hk hE4

              go_wp2

              refine post_eq ?_ (Below.refl _ _)
              simp only [Act.put, List.setIfInBounds_toArray, List.set_cons_zero, List.set_cons_succ]
              try rfl
            · simp only [Act.put, List.setIfInBounds_toArray, List.set_cons_zero, List.set_cons_succ]
              rfl
            apply obs_step
            · rfl
            · intro w4 hE4 hk
              clear hk hE4

              go_wp2

              refine post_eq ?_ (Below.refl _ _)
              simp only [Act.put, List.setIfInBounds_toArray, List.set_cons_zero, List.set_cons_succ]
              try rfl
            · simp only [Act.put, List.setIfInBounds_toArray, List.set_cons_zero, List.set_cons_succ]
              rfl
            apply obs_step
            · rfl
            · intro w4 hE4 hk
              clear hk hE4

              go_wp2

              refine post_eq ?_ (Below.refl _ _)
              simp only [Act.put, List.setIfInBounds_toArray, List.set_cons_zero, List.set_cons_succ]
              try rfl
            · simp only [Act.put, List.setIfInBounds_toArray, List.set_cons_zero, List.set_cons_succ]
              rfl
            apply obs_step
            · rfl
            · intro w4 hE4 hk
              have f := EX.out w4 hE4
              have f0 := f.1
              have f1 := f.2
              clear f hk hE4

              go_wp2

              refine post_eq ?_ (Below.refl _ _)
              simp only [Act.put, List.setIfInBounds_toArray, List.set_cons_zero, List.set_cons_succ]
              try rfl
            · simp only [Act.put, List.setIfInBounds_toArray, List.set_cons_zero, List.set_cons_succ]
              rfl
            apply obs_step
            · rfl
            · intro w4 hE4 hk
              clear hk hE4

              go_wp2

              refine post_eq ?_ (Below.refl _ _)
              simp only [Act.put, List.setIfInBounds_toArray, List.set_cons_zero, List.set_cons_succ]
              try rfl
            · simp only [Act.put, List.setIfInBounds_toArray, List.set_cons_zero, List.set_cons_succ]
              rfl
            apply obs_step
            · rfl
            · intro w4 hE4 hk
              clear hk hE4

              go_wp2

              refine post_eq ?_ (Below.refl _ _)
              simp only [Act.put, List.setIfInBounds_toArray, List.set_cons_zero, List.set_cons_succ]
              try rfl
            · simp only [Act.put, List.setIfInBounds_toArray, List.set_cons_zero, List.set_cons_succ]
              rfl
            apply obs_skip
            · rfl
            · simp only [Act.put, List.setIfInBounds_toArray, List.set_cons_zero, List.set_cons_succ]
              rfl
            apply obs_skip
            · rfl
            · simp only [Act.put, List.setIfInBounds_toArray, List.set_cons_zero, List.set_cons_succ]
              rfl
            apply obs_skip
            · rfl
            · simp only [Act.put, List.setIfInBounds_toArray, List.set_cons_zero, List.set_cons_succ]
              rfl
            apply obs_skip
            · rfl
            · simp only [Act.put, List.setIfInBounds_toArray, List.set_cons_zero, List.set_cons_succ]
              rfl
            apply obs_skip
            · rfl
            · simp only [Act.put, List.setIfInBounds_toArray, List.set_cons_zero, List.set_cons_succ]
              rfl
            apply obs_skip
            · rfl
            · simp only [Act.put, List.setIfInBounds_toArray, List.set_cons_zero, List.set_cons_succ]
              rfl
            apply obs_skip
            · rfl
            · simp only [Act.put, List.setIfInBounds_toArray, List.set_cons_zero, List.set_cons_succ]
              rfl
            apply obs_skip
            · rfl
            · simp only [Act.put, List.setIfInBounds_toArray, List.set_cons_zero, List.set_cons_succ]
              rfl
            apply obs_skip
            · rfl
            · simp only [Act.put, List.setIfInBounds_toArray, List.set_cons_zero, List.set_cons_succ]
              rfl
            apply obs_skip
            · rfl
            · simp only [Act.put, List.setIfInBounds_toArray, List.set_cons_zero, List.set_cons_succ]
              rfl
            apply obs_skip
            · rfl
            · simp only [Act.put, List.setIfInBounds_toArray, List.set_cons_zero, List.set_cons_succ]
              rfl
            apply obs_skip
            · rfl
            · simp only [Act.put, List.setIfInBounds_toArray, List.set_cons_zero, List.set_cons_succ]
              rfl
            apply obs_step
            · rfl
            · intro w4 hE4 hk
              clear hk hE4

              go_wp2

              refine post_eq ?_ (Below.refl _ _)
              simp only [Act.put, List.setIfInBounds_toArray, List.set_cons_zero, List.set_cons_succ]
              try rfl
            · simp only [Act.put, List.setIfInBounds_toArray, List.set_cons_zero, List.set_cons_succ]
              rfl

            refine obs_end fun w6 hE6 _ => ?_
            have HBW := Lib.hid (below2 HBK.out (((Below.refl wr.heap.size wr).drew).trans hE6))
            clear HBK hE6 AR BR EX LA LB
            go_wp2
            go_ret
            exact ⟨rfl, HBW.out⟩
      · have hyes : yes = true := by rw [HY.out]; exact decide_eq_true (ents_eq hn fun j hj hm _ => HNO.out j hj hm (by omega))
        subst hyes
        clear HY HNO
        go_wp2
        go_ret
        exact ⟨rfl, HBK.out⟩
  · have hn' : ¬ (l.length : Int) = (m.length : Int) := by omega
    have hno : yes = false := by rw [HY.out]; exact decide_eq_false fun h => hn (by rw [h])
    subst hno
    clear HY
    go_enter Try.func18, Try.ntmps18
    go_wp2
    go_ret
    exact ⟨rfl, Below.refl _ _⟩
end Go.Proofs.Ytpcfhpffbogjmaa
