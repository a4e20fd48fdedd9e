/- careenlaw05.WalSafe: it returns true for every input, and leaves its arguments as they were: the row's proof, out of the walk.
   Conditions: none beside the row's own (each argument is read as data). -/
import Derived.Test.YtopihafmajadfaaOpenRecs
import Derived.Test.YtopihafmajadfaaJwalK
import Derived.Laws.AppendOwnNone
import Derived.Test.YtopihafmajadfaaOpenRec
import Derived.ProofKit
import Derived.OpenShut
import Derived.ShutString
import Derived.ChangeOld
import Derived.Below
import Derived.Lib.SmallJoins
/- Truths that came in, opened. -/
namespace Go.Proofs.Ytopihafmajadfaa
open Go.ChangeShapes Go.WideShapes Go.RowKit
set_option maxRecDepth 100000

theorem cellsBool : Try.prog.cellsOf 4 = 1 := by kernel_rfl
theorem open_bools {H : Type} {enc : TypeId × Value → H} {W : World} {b0 : Nat} {r : Reach} {v : Value} {d : DataW H} {p : List MemPlace} (hval : Value.okWide Try.prog W r b0 74 v) (h : DataW.Trod enc Try.prog W 0 (fun _ => true) true 74 v d p) :
    ∃ l, IsBools W v l :=
  open_list Try.underlying74 1 (by decide) cellsBool hval h BoolQ fun _ _ _ _ ht => by
    obtain ⟨b, e, _⟩ := DataW.trod_bool Try.underlying4 ht
    exact ⟨b, e⟩
/-- One truth of the list. -/
theorem IsBools.at_ {w : World} {v : Value} {l : List Bool} (h : IsBools w v l) : (l = [] ∧ ∃ a cap, v = .slice a 0 cap) ∨ ∃ b off cap, v = .slice (some ⟨b, off, none⟩) l.length cap ∧ 0 < l.length ∧ l.length ≤ cap ∧ cap ≤ maxLen ∧ b < w.heap.size ∧ ∀ j (hj : j < l.length), w.cell? ⟨b, off + j, none⟩ = some (.bool l[j]) := by
  rcases ListOf.cases h with h | ⟨b, off, cap, e, h0, h1, h2, h3, h4⟩
  · exact .inl h
  · refine .inr ⟨b, off, cap, e, h0, h1, h2, h3, fun j hj => ?_⟩
    obtain ⟨cs, hq, hc⟩ := h4 j hj
    subst hq
    have := hc 0 _ rfl
    simpa using this
end Go.Proofs.Ytopihafmajadfaa

/- Lists of places beside a log; careenlaw05.WalSafe, walked. -/
namespace Go.Proofs.Ytopihafmajadfaa
open Go.RowKit

def natsV (l : List Nat) : List Value := l.map fun (n : Nat) => Value.int .i64 (n : Int)
theorem natsV_len (l : List Nat) : (natsV l).length = l.length := by simp [natsV]
theorem natsV_app (a b : List Nat) : natsV (a ++ b) = natsV a ++ natsV b := by simp [natsV]
theorem natsV_at (l : List Nat) (j : Nat) (h : j < l.length) : (natsV l)[j]? = some (.int .i64 (l[j] : Nat)) := by simp [natsV, h]
theorem natsV_one (l : List Nat) : ∀ u ∈ natsV l, u.oneCell' = true := by
  intro u hu
  obtain ⟨n, _, rfl⟩ := List.mem_map.1 hu
  rfl
theorem info_int : (Try.prog.info? 3).map (fun i => (i.zero, i.size, i.bytes)) = some (some (.int .i64 0), 1, 8) := by kernel_rfl
/-- A list of places of one's own, beside a footprint. -/
structure KeptI (w0 w : World) (F : Foot) (v : Value) (l : List Nat) : Prop where
  own : w.ownsRow w0.heap.size 3 1 v l.length (natsV l)
  apart : ∀ b, v.ownBlock = some b → ¬ F b
  nz : l = [] → v = .slice none 0 0
namespace KeptI
variable {w0 w w' : World} {F F' : Foot} {v : Value} {l : List Nat}
theorem nil (w0 w : World) (F : Foot) : KeptI w0 w F (.slice none 0 0) [] := ⟨World.ownsRow_nil w _ _ _, fun b hb => by simp [Value.ownBlock] at hb, fun _ => rfl⟩
theorem step (h : KeptI w0 w F v l) (hs : Step F F' w w') : KeptI w0 w' F' v l :=
  ⟨own_keep h.own fun b hb => hs.block b (h.own.lt b hb).2 (h.apart b hb), fun b hb hF => (hs.foot b hF).elim (h.apart b hb) fun hg => by have := (h.own.lt b hb).2; omega, h.nz⟩
theorem more (h : KeptI w0 w F v l) (hb : Below w.heap.size w w') : KeptI w0 w' F v l := ⟨own_below h.own hb, h.apart, h.nz⟩
theorem other {u : Value} (h : KeptI w0 w F v l) (hg : w.grownBy w' u.ownBlock) (hu : ∀ b, v.ownBlock = some b → u.ownBlock ≠ some b) : KeptI w0 w' F v l :=
  ⟨own_keep h.own fun b hb => hg.block b (h.own.lt b hb).2 fun e => hu b hb e.symm, h.apart, h.nz⟩
end KeptI
/-- The log is kept where a list of one's own grows. -/
theorem LiveL.grown {w0 w w' : World} {FD FL : Foot} {g gd : Nat} {D : Dk} {l : Wl} {v : Value} (L : LiveL w0 w FD FL g gd D l) (hg : w.grownBy w' v.ownBlock) (ha : ∀ b, v.ownBlock = some b → ¬ Both FD FL b) (hn : ∀ b, v.ownBlock = some b → w0.heap.size ≤ b) : LiveL w0 w' FD FL g gd D l :=
  L.only ((Only.refl _ w).grown hg fun _ hb => .inl hb) (fun b hF hv => ha b hv hF) hn
theorem LiveL.lt {w0 w : World} {FD FL : Foot} {g gd : Nat} {D : Dk} {l : Wl} (L : LiveL w0 w FD FL g gd D l) : ∀ b, Both FD FL b → b < w.heap.size := fun b hF => hF.elim (L.sys.disk.lt b) (L.sys.log.lt b)
theorem LiveL.waiting {w0 w : World} {FD FL : Foot} {g gd : Nat} {D : Dk} {l : Wl} (L : LiveL w0 w FD FL g gd D l) (hw : D.waits = []) : Calls Try.prog 37 #[.pointer (some ⟨gd, 0, none⟩)] w fun e w' => e = .returned (.int .i64 0) ∧ w = w' := by
  have := waiting_any L.sys.disk
  rw [hw] at this
  exact this
theorem KeptI.pushed {w0 w w' : World} {FD FL : Foot} {g gd : Nat} {D : Dk} {l : Wl} {v : Value} {q : List Nat} (h : KeptI w0 w (Both FD FL) v q) (L : LiveL w0 w FD FL g gd D l) {x : List Nat} {gg cap n : Nat} (ho : w'.ownsRow w0.heap.size 3 1 (.slice (some ⟨gg, 0, none⟩) n cap) n (natsV q ++ natsV x)) (hn : n = q.length + x.length) (hx : x ≠ [])
    (hg : w.grownBy w' v.ownBlock) (hat : v.ownBlock = some gg ∨ gg = w.heap.size) : LiveL w0 w' FD FL g gd D l ∧ KeptI w0 w' (Both FD FL) (.slice (some ⟨gg, 0, none⟩) n cap) (q ++ x) := by
  refine ⟨L.grown hg h.apart fun b hb => (h.own.lt b hb).1, ⟨?_, fun b hb hF => ?_, fun e => absurd (List.append_eq_nil_iff.1 e).2 hx⟩⟩
  · rw [natsV_app, List.length_append, ← hn]; exact ho
  · simp only [Value.ownBlock, Option.some.injEq] at hb
    subst hb
    rcases hat with hat | hat
    · exact h.apart _ hat hF
    · have := L.lt _ hF; omega

/-- Which places are safe, and which are not yet. -/
structure Placed (l : Wl) (ss ff : List Nat) : Prop where
  old : ∀ a ∈ ss, a / 128 < l.first ∧ a ≤ 1099511627776
  new : ∀ a ∈ ff, l.first ≤ a / 128 ∧ a / 128 < l.end_ ∧ a ≤ 1099511627776
theorem Placed.put {l : Wl} {ss ff : List Nat} (h : Placed l ss ff) (ok : l.Ok) {r : Rc} (hp : l.putE r = 0) : Placed (l.put r) ss (ff ++ [l.putAt r]) := by
  obtain ⟨s, rs, e1, e2, e3, e4, e5, e6, f1, f2, f3, e7, e8⟩ := Wl.put_where ok hp
  have hle := (Wl.put_gt ok hp).2.2
  have hend : l.end_ ≤ (l.put r).end_ := by
    unfold Wl.put
    split
    · rename_i hj
      unfold Wl.end_
      have := hj.1
      have := ok.fl
      unfold Wl.end_ at *
      simp only [List.length_append, List.length_dropLast, List.length_singleton]
      omega
    · split
      · unfold Wl.end_; simp
      · exact Nat.le_refl _
  refine ⟨fun a ha => by rw [f2]; exact h.old a ha, fun a ha => ?_⟩
  rw [f2]
  rcases List.mem_append.1 ha with ha | ha
  · have := h.new a ha; omega
  · simp at ha; subst ha; omega
theorem Placed.flush {l : Wl} {ss ff : List Nat} (h : Placed l ss ff) (ok : l.Ok) : Placed { l with first := l.end_ } (ss ++ ff) [] := by
  have hfe := ok.fe
  refine ⟨fun a ha => ?_, fun a ha => by simp at ha⟩
  show a / 128 < l.end_ ∧ _
  rcases List.mem_append.1 ha with ha | ha
  · have := h.old a ha; omega
  · have := h.new a ha; omega
structure SafeAt (w0 w : World) (g gd m : Nat) (vs vf : Value) : Prop where
  ex : ∃ (FD FL : Foot) (D : Dk) (l : Wl) (ss ff : List Nat), LiveL w0 w FD FL g gd D l ∧ Calm D l 64 1 ∧ KeptI w0 w (Both FD FL) vs ss ∧ KeptI w0 w (Both FD FL) vf ff ∧ (∀ b, vs.ownBlock = some b → vf.ownBlock ≠ some b) ∧ Placed l ss ff ∧ ss.length + ff.length ≤ m

set_option maxRecDepth 100000 in
set_option maxHeartbeats 16000000 in
theorem walSafe_long1 (v vf : Value) (l : List Rc) (fl : List Bool) (w : World) (hv : IsRecs w v l) (hf : IsBools w vf fl) (hl : 100 < l.length) :
    Calls Try.prog 8 #[v, vf] w fun e w' => e = .returned (.bool true) ∧ Below w.heap.size w w' := by
  have HV := Lib.hid hv
  obtain ⟨a, cap, rfl, h1, h2, _⟩ := hv
  obtain ⟨fa, fcap, rfl, hf1, hf2, hf3⟩ := hf
  have HF := Lib.hid hf3
  have hm : (100 : Int) < l.length := by omega
  clear h1 h2 hf1 hf2 hf3
  go_enter Try.func8, Try.ntmps8
  go_wp2_with fail
  refine (new_ok 64 w (by omega) (by omega)).mono ?_
  rintro e w1 ⟨gd, FD, rfl, hd, hFD, hb1⟩
  have HD := Lib.hid hd
  have HFD := Lib.hid hFD
  have HB1 := Lib.hid hb1
  clear hd hFD hb1
  go_wp2_with fail
  refine (LiveL.make HD.out HFD.out HB1.out 0 64 (by omega) (by omega) (by simp [Dk.new])).mono ?_
  rintro e w2 ⟨g, FL, rfl, hl2⟩
  have L2 := Lib.hid hl2
  clear hl2 HD HB1 HFD
  go_wp2_with fail
  refine (awake5 _).mono ?_
  rintro e w3 ⟨rfl, hb3⟩
  have L3 := Lib.hid (L2.out.more hb3)
  clear hb3 L2
  go_wp2_with fail
  refine (awake5 _).mono ?_
  rintro e w4 ⟨rfl, hb4⟩
  have HB4 := Lib.hid (L3.out.more hb4).below
  clear hb4 L3
  go_wp2
  go_ret
  exact ⟨rfl, HB4.out⟩

set_option maxRecDepth 100000 in
set_option maxHeartbeats 16000000 in
theorem walSafe_long2 (v vf : Value) (l : List Rc) (fl : List Bool) (w : World) (hv : IsRecs w v l) (hf : IsBools w vf fl) (hl : l.length ≤ 100) (hfl : 200 < fl.length) :
    Calls Try.prog 8 #[v, vf] w fun e w' => e = .returned (.bool true) ∧ Below w.heap.size w w' := by
  have HV := Lib.hid hv
  obtain ⟨a, cap, rfl, h1, h2, _⟩ := hv
  obtain ⟨fa, fcap, rfl, hf1, hf2, hf3⟩ := hf
  have HF := Lib.hid hf3
  have hm : (l.length : Int) ≤ 100 := by omega
  have hfm : (200 : Int) < fl.length := by omega
  clear h1 h2 hf1 hf2 hf3
  go_enter Try.func8, Try.ntmps8
  go_wp2_with fail
  refine (new_ok 64 w (by omega) (by omega)).mono ?_
  rintro e w1 ⟨gd, FD, rfl, hd, hFD, hb1⟩
  have HD := Lib.hid hd
  have HFD := Lib.hid hFD
  have HB1 := Lib.hid hb1
  clear hd hFD hb1
  go_wp2_with fail
  refine (LiveL.make HD.out HFD.out HB1.out 0 64 (by omega) (by omega) (by simp [Dk.new])).mono ?_
  rintro e w2 ⟨g, FL, rfl, hl2⟩
  have L2 := Lib.hid hl2
  clear hl2 HD HB1 HFD
  go_wp2_with fail
  refine (awake5 _).mono ?_
  rintro e w3 ⟨rfl, hb3⟩
  have L3 := Lib.hid (L2.out.more hb3)
  clear hb3 L2
  go_wp2_with fail
  refine (awake5 _).mono ?_
  rintro e w4 ⟨rfl, hb4⟩
  have HB4 := Lib.hid (L3.out.more hb4).below
  clear hb4 L3
  go_wp2
  go_ret
  exact ⟨rfl, HB4.out⟩

set_option maxRecDepth 100000 in
set_option maxHeartbeats 16000000 in
theorem walSafe_some (v vf : Value) (l : List Rc) (fl : List Bool) (w : World) (hv : IsRecs w v l) (hf : IsBools w vf fl) (hl : l.length ≤ 100) (hfl : fl.length ≤ 200) :
    Calls Try.prog 8 #[v, vf] w fun e w' => e = .returned (.bool true) ∧ Below w.heap.size w w' := by
  have HV := Lib.hid hv
  obtain ⟨a, cap, rfl, h1, h2, _⟩ := hv
  obtain ⟨fa, fcap, rfl, hf1, hf2, hf3⟩ := hf
  have HF := Lib.hid hf3
  have hm2 : (l.length : Int) ≤ 100 := by omega
  have hfm2 : (fl.length : Int) ≤ 200 := by omega
  clear h1 h2 hf1 hf2 hf3
  go_enter Try.func8, Try.ntmps8
  go_wp2_with fail
  refine (new_ok 64 w (by omega) (by omega)).mono ?_
  rintro e w1 ⟨gd, FD, rfl, hd, hFD, hb1⟩
  have HD := Lib.hid hd
  have HFD := Lib.hid hFD
  have HB1 := Lib.hid hb1
  clear hd hFD hb1
  go_wp2_with fail
  refine (LiveL.make HD.out HFD.out HB1.out 0 64 (by omega) (by omega) (by simp [Dk.new])).mono ?_
  rintro e w2 ⟨g, FL, rfl, hl2⟩
  have L2 := Lib.hid hl2
  clear hl2 HD HB1 HFD
  go_wp2_with fail
  refine (awake5 _).mono ?_
  rintro e w3 ⟨rfl, hb3⟩
  have L3 := Lib.hid (L2.out.more hb3)
  clear hb3 L2
  go_wp2_with fail
  have START : Hid (SafeAt w w3 g gd 0 (.slice none 0 0) (.slice none 0 0)) := ⟨FD, FL, _, _, [], [], L3.out, Calm.new (by omega) (by omega), KeptI.nil _ _ _, KeptI.nil _ _ _, fun b hb => by simp [Value.ownBlock] at hb, ⟨fun a ha => by simp at ha, fun a ha => by simp at ha⟩, Nat.le_refl _⟩
  clear L3
  obtain ⟨i0, hi0, hz0, hz1, hz2⟩ := info_parts info_int
  have HI := Lib.hid (And.intro hi0 (And.intro hz0 (And.intro hz1 hz2)))
  clear hi0 hz0 hz1 hz2
  go_loopw [9, 10, 51] (fun vs vf vk wr => ∃ (k : Nat), vk = .int .i64 k ∧ k ≤ l.length ∧ SafeAt w wr g gd k vs vf) (fun _ _ vk _ => l.length - (intOf vk).toNat)
  case atStart => exact ⟨0, rfl, Nat.zero_le _, START.out⟩
  case round =>
    obtain ⟨k, rfl, hk, hst⟩ := hrel
    have ST := Lib.hid hst
    clear hst START
    by_cases hlt : k < l.length
    · obtain ⟨FD2, FL2, D, lg, ss, ff, hL, hC, hS, hN, hAp, hP, hql⟩ := ST.out.ex
      have HL := Lib.hid hL
      have HC := Lib.hid hC
      have HS := Lib.hid hS
      have HN := Lib.hid hN
      have HAP := Lib.hid hAp
      have HP := Lib.hid hP
      have HB := Lib.hid hL.below
      clear hL hC hS hN hAp hP ST
      obtain ⟨b, off, cap', hva, _, _, hbw, hel⟩ := HV.out.at_ (by omega)
      cases hva
      obtain ⟨ta, tc, pa, pc, hls0, hsz, hc⟩ := hel k hlt
      have HLS := Lib.hid (hls0.keep HB.out)
      have HSZ := Lib.hid hsz
      obtain ⟨c0, c1, c2, c3, c4, c5, c6, c7, c8, c9, c10⟩ := hc.keep HB.out
      clear hls0 hsz hel hc
      generalize l[k] = r at *
      have hn := Blk.new wr 26 (recCells .nil (.slice none 0 0) (.slice none 0 0))
      have N3 := hn.setRow (recCells r (.slice ta r.txns.length tc) (.slice pa r.pages.length pc))
      have hb3 : Below wr.heap.size wr ((wr.alloc (.cells (recCells .nil (.slice none 0 0) (.slice none 0 0)) 26)).setRow wr.heap.size (recCells r (.slice ta r.txns.length tc) (.slice pa r.pages.length pc))) := below_setRow ((Below.refl _ _).alloc (Nat.le_refl _) _) (Nat.le_refl _) _
      have HL3 := Lib.hid (HL.out.more hb3)
      have HS3 := Lib.hid (HS.out.more hb3)
      have HN3 := Lib.hid (HN.out.more hb3)
      have HLS3 := Lib.hid (HLS.out.keep hb3)
      go_upto_region 9 with (refine wpList_store_row rfl 26 _ _ rfl wr.heap.size _ rfl rfl 26 _ hn (by kernel_rfl) rfl (by simp [recCells, Value.oneCell']) ?_)
      clear hn hb3 c0 c1 c2 c3 c4 c5 c6 c7 c8 c9 c10 HLS HL HB HS HN hbw
      change Code.wp _ _ _ _ ((wr.alloc (.cells (recCells .nil (.slice none 0 0) (.slice none 0 0)) 26)).setRow wr.heap.size (recCells r (.slice ta r.txns.length tc) (.slice pa r.pages.length pc)))
      generalize (wr.alloc (.cells (recCells .nil (.slice none 0 0) (.slice none 0 0)) 26)).setRow wr.heap.size (recCells r (.slice ta r.txns.length tc) (.slice pa r.pages.length pc)) = w3 at *
      generalize wr.heap.size = x at *
      have IR : Hid (IsRec w3 (.agg (recCells r (.slice ta r.txns.length tc) (.slice pa r.pages.length pc))) r) := ⟨_, _, rfl, HLS3.out⟩
      by_cases hf : Fit r
      · have FEW := Lib.hid (few_yes IR.out hf)
        have HFIT := Lib.hid hf
        clear hf
        go_wp2_with (refine wpList_load_row rfl 26 _ rfl x rfl 26 _ (0, 0) _ N3 Try.underlying26 rfl (by kernel_rfl) ?_)
        refine FEW.out.mono ?_
        rintro e w4 ⟨rfl, hb4⟩
        have N4 := N3.keep hb4 N3.lt
        have HL4 := Lib.hid (HL3.out.more hb4)
        have HS4 := Lib.hid (HS3.out.more hb4)
        have HN4 := Lib.hid (HN3.out.more hb4)
        have IR4 := Lib.hid (IR.out.keep hb4)
        clear hb4 N3 HL3 HS3 HN3 HLS3 IR FEW
        go_wp2_with (refine wpList_load_row rfl 26 _ rfl x rfl 26 _ (0, 0) _ N4 Try.underlying26 rfl (by kernel_rfl) ?_)
        refine (HL4.out.append IR4.out HFIT.out).mono ?_
        rintro e w5 ⟨rfl, FL5, hL5, st5⟩
        have HL5 := Lib.hid hL5
        have HS5 := Lib.hid (HS4.out.step st5)
        have HN5 := Lib.hid (HN4.out.step st5)
        clear N4 HS4 HN4 IR4 st5 hL5 HL4
        go_upto_if 66 with fail
        go_cut [10, 13, 14, 51] (fun s10 s13 s14 s51 wx => s51 = .int .i64 k ∧ SafeAt w wx g gd (k + 1) u9 s10)
        case first =>
          by_cases he : (lg.app r).2.1 = 0
          · obtain ⟨hmay, hpe, e1, e2⟩ := Wl.app_zero he
            rw [e2] at HL5
            rw [he, e1]
            have HP5 := Lib.hid (HP.out.put HC.out.ok hpe)
            have HC5 := Lib.hid (HC.out.put hmay)
            clear he e1 e2 hpe HC hmay
            generalize lg.putAt r = A at *
            generalize lg.put r = l5 at *
            obtain ⟨hi0, hz0, hz1, hz2⟩ := id HI.out
            have B6 : Below w5.heap.size w5 (w5.alloc (.cells #[.int .i64 (A : Int)] 3)) := (Below.refl _ _).alloc (Nat.le_refl _) _
            have HL6 := Lib.hid (HL5.out.more B6)
            have HS6 := Lib.hid (HS5.out.more B6)
            have HN6 := Lib.hid (HN5.out.more B6)
            have hq6 := HL6.out.below.size
            clear B6 HL5 HS5 HN5
            go_wp2_with (at_builtin; refine wpList_append_lies _ rfl (.tmp 67) (.tmp 69) 75 rfl w.heap.size 3 i0 (.int .i64 0) 1 8 Try.underlying75 hi0 hz0 hz1 hz2 rfl (by decide) _ _ _ rfl HN6.out.own ⟨w5.heap.size, 0, none⟩ 1 1 (natsV [A]) rfl rfl (World.news_of_block (heap_alloc_new w5 _)) (natsV_one _) (by omega) (by simp only [maxLen]; omega) (by omega) hq6 _ rfl ?_)
            intro gg cap'' w7 hown hgrow hat hlt7
            have hat2 : u10.ownBlock = some gg ∨ gg = (w5.alloc (.cells #[.int .i64 (A : Int)] 3)).heap.size := by rw [World.size_alloc]; exact hat
            have HQ := Lib.hid (HN6.out.pushed (x := [A]) HL6.out hown rfl (by simp) hgrow hat2)
            have HS7 := Lib.hid (HS6.out.other hgrow HAP.out)
            have HAP7 : Hid (∀ b, u9.ownBlock = some b → (Value.slice (some ⟨gg, 0, none⟩) (ff.length + 1) cap'').ownBlock ≠ some b) := fun b hb e => by
              simp only [Value.ownBlock, Option.some.injEq] at e
              subst e
              rcases hat2 with h | h
              · exact HAP.out _ hb h
              · have := (HS6.out.own.lt _ hb).2; omega
            clear hown hgrow hat hat2 HL6 HS6 HN6
            go_wp2_with fail
            go_meet
            exact ⟨rfl, FD2, FL5, D, l5, ss, _, HQ.out.1, HC5.out, HS7.out, HQ.out.2, HAP7.out, HP5.out, by rw [List.length_append, List.length_singleton]; omega⟩
          · have hsame := Wl.app_same he
            rw [hsame] at HL5
            have he2 : ((lg.app r).2.1 : Int) ≠ 0 := by omega
            have he3 : (((lg.app r).2.1 : Int) == 0) = false := by simpa using he2
            generalize (lg.app r).2.1 = er at *
            generalize (lg.app r).1 = at5 at *
            go_wp2_with fail
            go_meet
            exact ⟨rfl, FD2, FL5, D, lg, ss, ff, HL5.out, HC.out, HS5.out, HN5.out, HAP.out, HP.out, by omega⟩
        case rest =>
          obtain ⟨rfl, hst⟩ := hcut
          have ST := Lib.hid hst
          clear hst HL5 HC HS5 HN5 HAP HP HSZ HFIT hql
          go_upto_region 14 with fail
          go_cut [51, 80] (fun s51 s80 wx => s51 = .int .i64 k ∧ (∃ b : Bool, s80 = .bool b) ∧ wx = wc)
          case first =>
            have HBL : Hid (Below w.heap.size w wc) := ST.out.ex.elim fun _ h => h.elim fun _ h => h.elim fun _ h => h.elim fun _ h => h.elim fun _ h => h.elim fun _ h => h.1.below
            by_cases hkf : k < fl.length
            · obtain ⟨bf, of, cs, rfl, hblt, hcs, hcc⟩ := HF.out k _ (List.getElem?_eq_getElem hkf)
              subst hcs
              have cf : wc.cell? ⟨bf, of + k, none⟩ = some (.bool fl[k]) := (HBL.out.cell (p := ⟨bf, of + k, none⟩) hblt).trans (by simpa using hcc 0 _ rfl)
              clear hcc
              generalize fl[k] = fb at *
              go_wp2_with fail
              go_meet
              exact ⟨rfl, ⟨_, rfl⟩, rfl⟩
            · have hkf2 : ¬ (k : Int) < fl.length := by omega
              go_wp2_with fail
              go_meet
              exact ⟨rfl, ⟨_, rfl⟩, rfl⟩
          case rest =>
            obtain ⟨rfl, ⟨fb, rfl⟩, rfl⟩ := hcut
            go_upto_if 80 with fail
            go_cut [9, 10, 51] (fun s9 s10 s51 wx => s51 = .int .i64 k ∧ SafeAt w wx g gd (k + 1) s9 s10)
            case first =>
              cases fb with
              | false =>
                go_wp2_with fail
                go_meet
                exact ⟨rfl, ST.out⟩
              | true =>
                obtain ⟨FD6, FL6, D6, l6, ss, ff, hL, hC, hS, hN, hAp, hP, hql⟩ := ST.out.ex
                have HL := Lib.hid hL
                have HC := Lib.hid hC
                have HS := Lib.hid hS
                have HN := Lib.hid hN
                have HP := Lib.hid (hP.flush hC.ok)
                clear hL hC hS hN hAp hP ST
                have herr := HC.out.err
                have hlog := HC.out.log (by omega)
                have HC7 := Lib.hid (HC.out.flush (by omega))
                rw [← hlog] at HP
                go_wp2_with fail
                refine (HL.out.flush (HC.out.hep (by omega)) HC.out.hw).mono ?_
                rintro e w7 ⟨rfl, FD7, hL7, st7⟩
                rw [herr]
                have HL7 := Lib.hid hL7
                have HS7 := Lib.hid (HS.out.step st7)
                have HN7 := Lib.hid (HN.out.step st7)
                clear hL7 st7 HL HC HS HN herr hlog
                generalize (l6.flush D6).2.1 = l7 at *
                generalize (l6.flush D6).1 = D7 at *
                have herr := HC7.out.err
                have hlog := HC7.out.log (by omega)
                have HC8 := Lib.hid (HC7.out.flush (by omega))
                have HP8 := Lib.hid (HP.out.flush HC7.out.ok)
                rw [← hlog, List.append_nil] at HP8
                go_wp2_with fail
                refine (HL7.out.flush (HC7.out.hep (by omega)) HC7.out.hw).mono ?_
                rintro e w8 ⟨rfl, FD8, hL8, st8⟩
                rw [herr]
                have HL8 := Lib.hid hL8
                have HS8 := Lib.hid (HS7.out.step st8)
                have HN8 := Lib.hid (HN7.out.step st8)
                clear hL8 st8 HL7 HC7 HS7 HN7 herr hlog HP
                generalize (l7.flush D7).2.1 = l8 at *
                generalize (l7.flush D7).1 = D8 at *
                go_wp2_with fail
                refine (HL8.out.waiting HC8.out.stands.waits).mono ?_
                rintro e w9 ⟨rfl, rfl⟩
                obtain ⟨hi0, hz0, hz1, hz2⟩ := id HI.out
                have hq8 := HL8.out.below.size
                by_cases hff : ff = []
                · subst hff
                  have hnil := HN8.out.nz rfl
                  subst hnil
                  rw [List.append_nil] at HP8
                  go_wp2_with (at_builtin; refine wpList_append_own_none rfl (.tmp 94) (.tmp 95) 75 rfl w.heap.size 3 i0 1 Try.underlying75 hi0 _ _ _ rfl HS8.out.own rfl ?_)
                  go_meet
                  exact ⟨rfl, FD8, FL6, D8, l8, ss, [], HL8.out, HC8.out, HS8.out, KeptI.nil _ _ _, fun b _ => by simp [Value.ownBlock], HP8.out, by simp at hql ⊢; omega⟩
                · have hpos : 0 < ff.length := List.length_pos_iff.2 hff
                  obtain ⟨gf, capf, hvf, _, _⟩ := own_form HN8.out.own hpos
                  subst hvf
                  have hnews := HN8.out.own.cells (g := gf) rfl
                  go_wp2_with (at_builtin; refine wpList_append_lies _ rfl (.tmp 94) (.tmp 95) 75 rfl w.heap.size 3 i0 (.int .i64 0) 1 8 Try.underlying75 hi0 hz0 hz1 hz2 rfl (by decide) _ _ _ rfl HS8.out.own ⟨gf, 0, none⟩ ff.length capf (natsV ff) rfl (by rw [natsV_len]; omega) hnews (natsV_one _) hpos (by simp only [maxLen]; omega) (by omega) hq8 _ rfl ?_)
                  intro gg cap'' w10 hown hgrow hat hlt10
                  have HQ := Lib.hid (HS8.out.pushed (x := ff) HL8.out hown rfl hff hgrow hat)
                  clear hown hgrow hat HL8 HS8 HN8 hnews
                  go_wp2_with fail
                  go_meet
                  exact ⟨rfl, FD8, FL6, D8, l8, _, [], HQ.out.1, HC8.out, HQ.out.2, KeptI.nil _ _ _, fun b _ => by simp [Value.ownBlock], HP8.out, by simp; omega⟩
            case rest =>
              obtain ⟨rfl, hst⟩ := hcut
              have ST2 := Lib.hid hst
              clear hst ST
              obtain ⟨FD6, FL6, D6, l6, ss, ff, hL, hC, hS, hN, hAp, hP, hql⟩ := ST2.out.ex
              have HL := Lib.hid hL
              have HS := Lib.hid hS
              have HN := Lib.hid hN
              have HP := Lib.hid hP
              obtain ⟨sa, sc, hsv⟩ := own_slice hS.own
              obtain ⟨na, nc, hnv⟩ := own_slice hN.own
              subst hsv hnv
              clear hL hC hS hN hAp hP
              have hs100 : (ss.length : Int) ≤ 101 := by omega
              have hn100 : (ff.length : Int) ≤ 101 := by omega
              go_wp2_with fail
              go_loopw [99] (fun vj wr => ∃ j : Nat, vj = .int .i64 j ∧ j ≤ ss.length ∧ wr = wc) (fun vj _ => ss.length - (intOf vj).toNat)
              case atStart => exact ⟨0, rfl, Nat.zero_le _, rfl⟩
              case round =>
                obtain ⟨j, rfl, hj, hw⟩ := hrel
                have hw2 := hw.symm
                clear hw
                subst hw2
                by_cases hjl : j < ss.length
                · obtain ⟨gs, cps, hvs, _, _⟩ := own_form HS.out.own (by omega)
                  cases hvs
                  have cj := HS.out.own.cellAt j (by omega)
                  rw [natsV_at ss j hjl] at cj
                  have hsafe := HP.out.old ss[j] (List.getElem_mem hjl)
                  have SF := Lib.hid (safe_any HL.out.sys.log ss[j] hsafe.2 true (by simp [hsafe.1]))
                  clear hsafe
                  generalize ss[j] = A at *
                  go_wp2_with fail
                  refine SF.out.mono ?_
                  rintro e w12 ⟨rfl, rfl⟩
                  go_wp2_with fail
                  go_roundw
                  case rel => exact ⟨j + 1, by go_num, by omega, by trivial⟩
                  case measure => simp [intOf]; omega
                · obtain rfl : j = ss.length := by omega
                  go_wp2_with fail
                  go_loopw [110] (fun vj wr => ∃ j : Nat, vj = .int .i64 j ∧ j ≤ ff.length ∧ wr = wc) (fun vj _ => ff.length - (intOf vj).toNat)
                  case atStart => exact ⟨0, rfl, Nat.zero_le _, rfl⟩
                  case round =>
                    obtain ⟨j, rfl, hj, hw⟩ := hrel
                    have hw2 := hw.symm
                    clear hw
                    subst hw2
                    by_cases hjl : j < ff.length
                    · obtain ⟨gs, cps, hvs, _, _⟩ := own_form HN.out.own (by omega)
                      cases hvs
                      have cj := HN.out.own.cellAt j (by omega)
                      rw [natsV_at ff j hjl] at cj
                      have hsafe := HP.out.new ff[j] (List.getElem_mem hjl)
                      have SF := Lib.hid (safe_any HL.out.sys.log ff[j] hsafe.2.2 false (by simp; omega))
                      clear hsafe
                      generalize ff[j] = A at *
                      go_wp2_with fail
                      refine SF.out.mono ?_
                      rintro e w12 ⟨rfl, rfl⟩
                      go_wp2_with fail
                      go_roundw
                      case rel => exact ⟨j + 1, by go_num, by omega, by trivial⟩
                      case measure => simp [intOf]; omega
                    · obtain rfl : j = ff.length := by omega
                      go_wp2_with fail
                      go_roundw
                      case rel => exact ⟨k + 1, by go_num, by omega, ST2.out⟩
                      case measure => simp [intOf]; omega
      · have FEW := Lib.hid (few_no IR.out HSZ.out hf)
        clear hf
        go_wp2_with (refine wpList_load_row rfl 26 _ rfl x rfl 26 _ (0, 0) _ N3 Try.underlying26 rfl (by kernel_rfl) ?_)
        refine FEW.out.mono ?_
        rintro e w4 ⟨rfl, hb4⟩
        have HB4 := Lib.hid (HL3.out.more hb4).below
        clear hb4 N3 HL3 HLS3 IR FEW
        go_wp2
        go_ret
        exact ⟨rfl, HB4.out⟩
    · obtain rfl : k = l.length := by omega
      obtain ⟨FD2, FL2, D, lg, ss, ff, hL, _⟩ := ST.out.ex
      have HB := Lib.hid hL.below
      clear hL ST
      go_wp2
      go_ret
      exact ⟨rfl, HB.out⟩
theorem walkWalSafe (v : Value) (l : List Rc) (vf : Value) (fl : List Bool) (w : World) (hv : IsRecs w v l) (hf : IsBools w vf fl) :
    Calls Try.prog 8 #[v, vf] w fun e w' => e = .returned (.bool true) ∧ Below w.heap.size w w' := by
  by_cases h1 : l.length ≤ 100
  · by_cases h2 : fl.length ≤ 200
    · exact walSafe_some v vf l fl w hv hf h1 h2
    · exact walSafe_long2 v vf l fl w hv hf h1 (by omega)
  · exact walSafe_long1 v vf l fl w hv hf (by omega)
end Go.Proofs.Ytopihafmajadfaa

/- careenlaw05.WalSafe: it returns true for every input, and leaves its arguments as they were: the row's proof, out of the walk.
   Conditions: none beside the row's own (each argument is read as data). -/
namespace Go.Proofs.Ytopihafmajadfaa.walSafe
open Go.ChangeShapes Go.WideShapes Go.ChangeAt Go.RowKit Go.Joins
open Go.ChangeMaps (open_string shut_string)
set_option linter.unusedVariables false

theorem own : ownKnob Try.prog.godebug = none := by kernel_rfl
theorem laidOut : laidOutB Try.prog = true := by kernel_rfl

set_option maxRecDepth 100000 in
theorem lifted (os : Os) (started : os.Started) (H : Type) (enc : TypeId × Value → H) :
    ReturnsInHanded {} Try.checked os 8 .any (Rows.walSafeSpec.pre6 enc Try.prog Try.f8 Rows.walSafeRow.domain false) (Rows.walSafeSpec.post enc Try.prog Try.f8 false true false false) := by
  refine returnsInHanded_of_change (C := Try.checked) own started (by kernel_rfl) Try.func8
    (ChangeSpec.witness6 (enc := enc) (C := Try.checked) false ⟨#[], #[.slice none 0 0, .slice none 0 0], []⟩ 8 (by kernel_rfl) (by kernel_rfl) (by kernel_rfl) (by kernel_rfl)) ?_
  intro W base args ds gs before hval0 hW hcnd _
  have hval : ∀ (j : Nat) t v, Try.f8.params[j]? = some t → args[j]? = some v → Value.okWide Try.prog W .any base t v := hval0
  have hW' := hW
  obtain ⟨p, q, hA0, hV, rfl, hfz, hnd⟩ := hW
  have hA : DataW.TrodAll enc Try.prog W 0 (fun _ => true) true Try.f8.params.toList args.toList ds p := hA0
  rw [Try.params8] at hA hval
  obtain ⟨v0, vs0, d0, ds0, p0, q0, hargs, rfl, rfl, h0, r0⟩ := trodAll_cons hA
  obtain ⟨v1, vs1, d1, ds1, p1, q1, rfl, rfl, rfl, h1, r1⟩ := trodAll_cons r0
  obtain ⟨rfl, rfl, rfl⟩ := trodAll_nil r1
  obtain rfl : args = #[v0, v1] := by cases args; simp_all
  obtain ⟨rfl, rfl⟩ := trodVars_none hV
  have k0 := h0
  have lt0 : ∀ x ∈ p0, x.block < W.heap.size := by obtain ⟨m, hm⟩ := k0; exact DataW.trod_lt m _ _ _ hm
  have k1 := h1
  have lt1 : ∀ x ∈ p1, x.block < W.heap.size := by obtain ⟨m, hm⟩ := k1; exact DataW.trod_lt m _ _ _ hm
  obtain ⟨a0, w0⟩ := open_recs (hval 0 40 v0 rfl rfl) h0
  obtain ⟨a1, w1⟩ := open_bools (hval 1 74 v1 rfl rfl) h1
  clear hA0 hval0
  refine (walkWalSafe v0 a0 v1 a1 W w0 w1).mono fun e W' ⟨he, bel⟩ => ?_
  subst he
  exact ⟨_, rfl, _, _, _, [], _, [], hW', trodAll_mk1 (shut_bool Try.underlying4 _), (trodAll_cons_mk (Below.trod laidOut (by kernel_rfl) (of_decide_eq_true (by kernel_rfl)) k0 bel lt0) (trodAll_cons_mk (Below.trod laidOut (by kernel_rfl) (of_decide_eq_true (by kernel_rfl)) k1 bel lt1) trodAll_mk0)), rfl, bel.frame _, fun h => by cases h⟩

theorem over : Rows.walSafeRow.holds Try.pinned (OpenSpec.ofChange Rows.walSafeSpec) :=
  OpenClaim.holds_of_wide 8 Try.f8 rfl rfl rfl rfl rfl rfl rfl ⟨rfl, rfl, rfl, rfl, rfl⟩ rfl rfl rfl rfl rfl (by kernel_rfl) Try.func8 (by kernel_rfl)
    (of_decide_eq_true (by kernel_rfl)) (by unfold Func.isWrapper; first | (rw [if_pos (by decide +kernel)]; kernel_rfl) | (rw [if_neg (by decide +kernel)]; exact ⟨rfl, rfl⟩))
    (fun os started H enc _ => lifted os started H enc)

/-- The given statement. -/
theorem proved : Rows.WalSafeSaid := over
end Go.Proofs.Ytopihafmajadfaa.walSafe
