/- careenlaw14: the walk of RedoWhole. (By gen/genredo14d.py: XRdR is its beginning.) RedoWhole as lists: pages that have beginnings of their own changes, those that have all, the first place that any lacks. -/
import Derived.Test.YtkodnjefdophmaaRdM
import Derived.IntWalk
namespace Go.Proofs.Ytkodnjefdophmaa
open Go.RowKit

theorem und_ents2 : Try.prog.underlying 22 = some (.slice (Try.prog.elem 22)) := by kernel_rfl
theorem elem_ents2 : Try.prog.elem 22 = 39 := by kernel_rfl
theorem size_ent2 : ∀ w, (sizeOf 39).run Try.prog w = .ok 12 w := fun w => by kernel_rfl
/-- 'list[:p]'. -/
theorem ents_upto {a : Option Addr} {n cap : Nat} (hc : n ≤ cap) (p : Nat) (hp : p ≤ n) (W : World) : (Instr.slice 22 (.slice a n cap) none (some (.int .i64 p)) none).run Try.prog W = .ok (.slice a p cap) W := by
  have := run_slice_h (P := Try.prog) W 22 a n cap und_ents2 .i64 p (by omega) (by omega)
  rw [elem_ents2, size_ent2, Int.toNat_natCast] at this
  rw [this]
  show Result.ok (Value.slice (if cap = 0 then a else Option.map (fun x => x.add (0 * 12)) a) p cap) W = _
  by_cases h : cap = 0
  · rw [if_pos h]
  · rw [if_neg h]
    cases a with
    | none => rfl
    | some a => simp [Addr.add]
theorem min_run14 (x y : Int) (w : World) : (Builtin.min_ #[3, 3] 3 #[.int .i64 x, .int .i64 y]).run Try.prog w = .ok (.int .i64 (min x y)) w := by
  rw [run_min_int2, show (if y < x then y else x) = min x y by split <;> omega]
/-- A row that was appended to lies apart from what lay apart from it. -/
theorem apart_new {w : World} {B e s n z : Nat} {u v v' : Value} {xs : List Value} (h : ∀ b, u.ownBlock = some b → v.ownBlock ≠ some b) (hv : w.ownsRow B e s v n xs) (hz : w.heap.size ≤ z) (h4 : v'.ownBlock = u.ownBlock ∨ v'.ownBlock = some z) : ∀ b, v'.ownBlock = some b → v.ownBlock ≠ some b := fun b hb e => by
  rcases h4 with h4 | h4
  · exact h b (h4.symm.trans hb) e
  · have h5 := (hv.lt b e).2
    obtain rfl : z = b := Option.some.inj (h4.symm.trans hb)
    omega
theorem apart_or {u v : Value} (h : ∀ b, u.ownBlock = some b → v.ownBlock ≠ some b) : v.ownBlock = none ∨ v.ownBlock ≠ u.ownBlock := by
  cases hv : v.ownBlock with
  | none => exact .inl rfl
  | some b => exact .inr fun e => h b e.symm hv
theorem apart_sym {u v : Value} (h : ∀ b, u.ownBlock = some b → v.ownBlock ≠ some b) : ∀ b, v.ownBlock = some b → u.ownBlock ≠ some b := fun b h1 h2 => h b h2 h1
theorem mod300 (i : Int) : ∃ E : Nat, wrap64 ((IntKind.u64.wrap i).tmod 300) = (E : Int) ∧ E < 300 := by
  have h0 : 0 ≤ IntKind.u64.wrap i := by rw [IntKind.wrap_u64]; omega
  have h1 := Int.emod_lt_of_pos (IntKind.u64.wrap i) (show (0 : Int) < 300 by omega)
  have h2 := Int.emod_nonneg (IntKind.u64.wrap i) (show (300 : Int) ≠ 0 by omega)
  refine ⟨(IntKind.u64.wrap i % 300).toNat, ?_, by omega⟩
  rw [Int.tmod_eq_emod_of_nonneg h0]
  generalize IntKind.u64.wrap i % 300 = x at *
  unfold wrap64
  omega
/-- Rows of unlike kinds lie apart. -/
theorem apart14 {w : World} {B B' e e' s s' n n' : Nat} {v v' : Value} {xs xs' : List Value} (h : w.ownsRow B e s v n xs) (h' : w.ownsRow B' e' s' v' n' xs') (hne : e ≠ e') : v.ownBlock = none ∨ v.ownBlock ≠ v'.ownBlock := by
  cases hv : v.ownBlock with
  | none => exact .inl rfl
  | some b => exact .inr fun e => own_apart h h' hne hv e.symm
/-- How many of its own changes a page has. -/
def kf14 (L : List En) (H : List UInt8) (n : Nat) : Nat := (H.getD n 0).toNat % ((Hs.goes n L).length + 1)
def pw14 (L : List En) (H : List UInt8) (m : Nat) : List Hs.Pge := (List.range m).map fun n => Hs.oneL ((Hs.goes n L).take (kf14 L H n)) (n : Int)
def ww14 (L : List En) (m : Nat) : List Hs.Pge := (List.range m).map fun n => Hs.oneL (Hs.goes n L) (n : Int)
theorem pw_succ (L : List En) (H : List UInt8) (m : Nat) : pw14 L H (m + 1) = pw14 L H m ++ [Hs.oneL ((Hs.goes m L).take (kf14 L H m)) (m : Int)] := by
  unfold pw14
  rw [List.range_succ, List.map_append]
  rfl
theorem ww_succ (L : List En) (m : Nat) : ww14 L (m + 1) = ww14 L m ++ [Hs.oneL (Hs.goes m L) (m : Int)] := by
  unfold ww14
  rw [List.range_succ, List.map_append]
  rfl
theorem pw_len (L : List En) (H : List UInt8) (m : Nat) : (pw14 L H m).length = m := by unfold pw14; rw [List.length_map, List.length_range]
theorem ww_len (L : List En) (m : Nat) : (ww14 L m).length = m := by unfold ww14; rw [List.length_map, List.length_range]
theorem pw_small (L : List En) (H : List UInt8) (m : Nat) : ∀ p ∈ pw14 L H m, p.2.size ≤ 100000 := fun p hp => by
  obtain ⟨n, _, rfl⟩ := List.mem_map.1 hp
  rw [(Hs.one_right ((Hs.goes n L).take (kf14 L H n)) (n : Int)).2]
  decide
theorem kf_le (L : List En) (H : List UInt8) (n : Nat) : kf14 L H n ≤ (Hs.goes n L).length := by
  unfold kf14
  have := Nat.mod_lt (H.getD n 0).toNat (show 0 < (Hs.goes n L).length + 1 by omega)
  omega
theorem from_succ (L : List En) (H : List UInt8) (m : Nat) (h : kf14 L H m < (Hs.goes m L).length) : Hs.fromL L (kf14 L H) (m + 1) = min (Hs.fromL L (kf14 L H) m) ((Hs.goes m L)[kf14 L H m]).1 := by
  show (if h : _ then _ else _) = _
  rw [dif_pos h]
theorem from_same (L : List En) (H : List UInt8) (m : Nat) (h : ¬ kf14 L H m < (Hs.goes m L).length) : Hs.fromL L (kf14 L H) (m + 1) = Hs.fromL L (kf14 L H) m := by
  show (if h : _ then _ else _) = _
  rw [dif_neg h]
theorem whole14 {L : List En} (hr : Ch.Rises L) (h1 : ∀ x ∈ L, 1 ≤ x.1) (H : List UInt8) (m : Nat) {from_ : Int} (hf : from_ ≤ Hs.fromL L (kf14 L H) m) : pgs14 L from_ (pw14 L H m) = ww14 L m :=
  Hs.redo_all hr h1 m (kf14 L H) fun n hn x hx => Int.le_trans hf (Hs.fromL_le hr (kf14 L H) m n hn x hx)
theorem rises_one {L : List En} (hr : Ch.Rises L) (h : ∀ (h : 0 < L.length), 1 ≤ L[0].1) : ∀ x ∈ L, 1 ≤ x.1 := fun x hx => by
  obtain ⟨j, hj, rfl⟩ := List.getElem_of_mem hx
  have h0 := h (by omega)
  rcases Nat.eq_zero_or_pos j with rfl | hp
  · exact h0
  · have := rises_lt hr hj hp
    omega
section
set_option maxRecDepth 100000
set_option maxHeartbeats 32000000
set_option linter.unusedSimpArgs false
theorem redoWhole_nil (v : Value) (L : List Ent) (vh : Value) (H : List UInt8) (early : Int) (w : World) (hv : IsEnts w v L) (hz : ∀ x ∈ L, Sized x.2) (hR : Reads w vh (H.map fun b => Value.int .u8 (b.toNat : Int))) (h_FW : FewL L) (h_RW : Ch.Rises L) (hH : H.length ≤ 8)
    (hone : ∀ x ∈ L, 1 ≤ x.1) (hL : L.length = 0) : Calls Try.prog 4 #[v, vh, .int .i64 early] w fun e w' => e = .returned (.bool true) ∧ Below w.heap.size w w' := by
  have AW := Lib.hid awake14
  have FW := Lib.hid (fun W (h : Below w.heap.size w W) => refFew (hv.keep h) hz true ⟨fun _ => h_FW, fun _ => rfl⟩)
  have RW := Lib.hid (fun W (h : Below w.heap.size w W) => refRises (hv.keep h) true (decide_eq_true h_RW).symm)
  have FWT := Lib.hid (fit_after h_FW)
  have hLn : L.length ≤ 200 := h_FW.1
  have H1 := Lib.hid (fun W (h : Below w.heap.size w W) from_ u (q : List Hs.Pge) (hq : IsPgs W u q) (h1 : q.length ≤ 1000) (h2 : ∀ p ∈ q, p.2.size ≤ 100000) => rdPages_any from_ (hv.keep h) (fit_after h_FW) hq h1 h2)
  have WH := Lib.hid (fun m from_ => whole14 h_RW hone H m (from_ := from_))
  have FG := Lib.hid (fun m => Hs.fromL_ge hone (kf14 L H) m)
  obtain ⟨va, vc, rfl, hvc, _, hx⟩ := hv
  have HX := Lib.hid hx
  have hd : decide ((0 : Int) < L.length) = false := by rw [decide_eq_false_iff_not]; omega
  have hdi : ¬ (0 : Int) < L.length := by omega
  obtain ⟨ra, rc, rfl, _, hr⟩ := hR
  rw [List.length_map]
  have HR := Lib.hid hr
  have hd8 : decide ((8 : Int) < H.length) = false := by rw [decide_eq_false_iff_not]; omega
  have hd8i : ¬ (8 : Int) < H.length := by omega
  have HL := Lib.hid hL
  obtain ⟨i0, hi0, hzz⟩ := Option.map_eq_some_iff.1 infoEnt
  simp only [Prod.mk.injEq] at hzz
  obtain ⟨hz0, hz1', hz2⟩ := hzz
  obtain ⟨j0, hj0, hyy⟩ := Option.map_eq_some_iff.1 infoPg
  simp only [Prod.mk.injEq] at hyy
  obtain ⟨hy0, hy1, hy2⟩ := hyy
  clear hx hr hz h_FW h_RW hone hL
  go_enter Try.func4, Try.ntmps4
  go_wp2_with fail
  refine (AW.out _).mono ?_
  rintro e w1 ⟨rfl, hb⟩
  have HB1 := Lib.hid hb
  clear hb
  go_wp2_with fail
  refine (FW.out _ HB1.out).mono ?_
  rintro e w2 ⟨rfl, hb⟩
  have HB2 := Lib.hid (below2 HB1.out hb)
  clear hb FW
  go_wp2_with fail
  refine (RW.out _ HB2.out).mono ?_
  rintro e w3 ⟨rfl, hb⟩
  have HB3 := Lib.hid (below2 HB2.out hb)
  clear hb RW AW
  go_wp2_with fail
  go_loopw [7, 8, 9, 48] (fun vp vw vf vk wr => ∃ m : Nat, vk = .int .i64 m ∧ m ≤ H.length ∧ vf = .int .i64 (Hs.fromL L (kf14 L H) m) ∧ wr.ownsRow w.heap.size 30 2 vp m (pgV (pw14 L H m)) ∧ wr.ownsRow w.heap.size 30 2 vw m (pgV (ww14 L m)) ∧ (∀ b, vp.ownBlock = some b → vw.ownBlock ≠ some b) ∧ Below w.heap.size w wr) (fun _ _ _ vk _ => H.length - (intOf vk).toNat)
  case atStart =>
    exact ⟨0, rfl, Nat.zero_le _, rfl, World.ownsRow_nil _ _ _ 2, World.ownsRow_nil _ _ _ 2, nofun, HB3.out⟩
  case round =>
   obtain ⟨m, rfl, hm, rfl, hop, how, hap, hB⟩ := hrel
   clear HB3
   have HOP := Lib.hid hop
   have HOW := Lib.hid how
   have HAP := Lib.hid hap
   have HB := Lib.hid hB
   clear hop how hap hB
   by_cases hlm : m < H.length
   · have HLM := Lib.hid hlm
     have hmI : (m : Int) < H.length := by omega
     have hg : (H.map fun b => Value.int .u8 (b.toNat : Int))[m]? = some (.int .u8 (H[m].toNat : Int)) := by rw [List.getElem?_map, List.getElem?_eq_getElem hlm]; rfl
     obtain ⟨rb, ro, rfl, hcm⟩ := HR.out m _ hg
     have c0 : wr.cell? ⟨rb, ro + m, none⟩ = some (.int .u8 (H[m].toNat : Int)) := (HB.out.cell (p := ⟨rb, ro + m, none⟩) (World.block_lt_of_cell? w _ hcm)).trans hcm
     have hby : H[m].toNat < 256 := H[m].toNat_lt
     have HK : Hid (kf14 L H m = H[m].toNat % ((Hs.goes m L).length + 1)) := by
       show _ = _
       have e : H.getD m 0 = H[m] := by rw [List.getD_eq_getElem?_getD, List.getElem?_eq_getElem hlm]; rfl
       unfold kf14
       rw [e]
     generalize H[m].toNat = by_ at *
     clear hg hcm
     clear hlm
     go_wp2_with fail
     go_loopw [12, 55] (fun vo vk wi => ∃ (k : Nat) (q : List Qx), vk = .int .i64 k ∧ k ≤ L.length ∧ wi.ownsRow w.heap.size 39 12 vo q.length (qV q) ∧ q.length ≤ k ∧ q.map Qx.ent = Hs.goes m (L.take k) ∧ (∀ x ∈ q, Lists w x.r x.vt x.vp) ∧ wi.ownsRow w.heap.size 30 2 u7 m (pgV (pw14 L H m)) ∧ wi.ownsRow w.heap.size 30 2 u8 m (pgV (ww14 L m)) ∧ Below w.heap.size w wi) (fun _ vk _ => L.length - (intOf vk).toNat)
     case atStart => exact ⟨0, [], rfl, Nat.zero_le _, World.ownsRow_nil _ _ _ 12, Nat.le_refl _, rfl, nofun, HOP.out, HOW.out, HB.out⟩
     case round =>
      obtain ⟨k, q, rfl, hk, hoq, hqk, hq, hql, hop, how, hB⟩ := hrel
      clear HB HOP HOW c0
      have HOQ := Lib.hid hoq
      have HQ := Lib.hid hq
      have HQL := Lib.hid hql
      have HOP := Lib.hid hop
      have HOW := Lib.hid how
      have HB := Lib.hid hB
      clear hoq hq hql hop how hB
      by_cases hlt : k < L.length
      · have HLT := Lib.hid hlt
        have hkI : (k : Int) < L.length := by omega
        have h0 := HL.out
        exact absurd hlt (by omega)
      · obtain rfl : k = L.length := by omega
        rw [List.take_length] at HQ
        have hql : q.length = (Hs.goes m L).length := by rw [← HQ.out, List.length_map]
        have HQL2 := Lib.hid hql
        obtain ⟨ra2, rc2, rfl⟩ := own_slice HOQ.out
        have hq1 : (q.length : Int) ≤ 200 := by omega
        have hz1 : ((q.length : Int) + 1 == 0) = false := by rw [beq_eq_false_iff_ne]; omega
        have hwl : IntKind.i64.wrap ((q.length : Int) + 1) = (q.length : Int) + 1 := by rw [IntKind.wrap_i64]; omega
        clear hlt hk hql
        go_upto_region 16 with fail
        obtain ⟨K, hK⟩ : ∃ K, K = kf14 L H m := ⟨_, rfl⟩
        have hKK : ((by_ : Nat) : Int) % ((q.length : Int) + 1) = (K : Int) := by
          rw [hK, HK.out, ← HQL2.out, Int.natCast_emod]
          rfl
        rw [hKK]
        have hKq : K ≤ q.length := by rw [hK, HQL2.out]; exact kf_le L H m
        have HKE := Lib.hid hK
        have hrc : q.length ≤ rc2 := by
          rcases own_any HOQ.out with ⟨e, _, _⟩ | ⟨g, cap, e, h1, _⟩
          · obtain ⟨_, e1, e2⟩ := Value.slice.inj e; omega
          · obtain ⟨_, _, e2⟩ := Value.slice.inj e; omega
        have UPT := Lib.hid (ents_upto (a := ra2) hrc K hKq)
        have HQI : Hid (∀ W, W.ownsRow w.heap.size 39 12 (.slice ra2 q.length rc2) q.length (qV q) → Below w.heap.size w W → IsEnts W (.slice ra2 q.length rc2) (Hs.goes m L)) := fun W h1 h2 => by
          have := qEnts h1 (fun x hx => (HQL.out x hx).keep h2)
          rwa [HQ.out] at this
        have HTI : Hid (∀ W, W.ownsRow w.heap.size 39 12 (.slice ra2 q.length rc2) q.length (qV q) → Below w.heap.size w W → IsEnts W (.slice ra2 K rc2) ((Hs.goes m L).take K)) := fun W h1 h2 => by
          have h3 := HQI.out W h1 h2
          rw [HQL2.out] at h3
          exact IsEnts.take h3 K (by rw [← HQL2.out]; exact hKq)
        have PW := Lib.hid (pw_succ L H m)
        have WW := Lib.hid (ww_succ L m)
        rw [← hK] at PW
        clear hz1 hwl hKK hrc hK
        by_cases hKlt : K < q.length
        · have h0 := HL.out
          exact absurd hKlt (by omega)
        · have HFR := Lib.hid (from_same L H m (by rw [← HKE.out, ← HQL2.out]; exact hKlt))
          go_upto_region 18 with fail
          clear hKlt
          have hup := UPT.out
          go_wp2_with fail
          refine (refOne14_any (m : Int) (HTI.out _ HOQ.out HB.out)).mono ?_
          rintro e w5 ⟨rfl, hb⟩
          have hOQ5 := own_below HOQ.out hb
          have hOP5 := own_below HOP.out hb
          have hOW5 := own_below HOW.out hb
          have HB5 := Lib.hid (below2 HB.out hb)
          generalize Hs.oneL ((Hs.goes m L).take K) (m : Int) = P1 at *
          obtain ⟨a1, s1⟩ := P1
          clear hb hup
          have hs5 := HB5.out.size
          have hA5 : Below w5.heap.size w5 (w5.alloc (.cells #[.int .i64 a1, .string s1] 30)) := (Below.refl _ _).alloc (Nat.le_refl _) _
          have HOQ6 := Lib.hid (own_below hOQ5 hA5)
          have HOP6 := Lib.hid (own_below hOP5 hA5)
          have HOW6 := Lib.hid (own_below hOW5 hA5)
          have HA6 := Lib.hid (below2 HB5.out hA5)
          clear hA5 hOQ5 hOP5 hOW5 HOQ HOP HOW
          go_wp2_with (at_builtin; refine wpList_append_own_at _ rfl (.tmp 99) (.tmp 105) 23 rfl w.heap.size 30 j0 _ 2 24 Try.underlying23 hj0 hy0 hy1 hy2 rfl (by decide) _ _ _ rfl HOP6.out ⟨w5.heap.size, 0, none⟩ 1 1 [.int .i64 a1, .string s1] rfl rfl (World.news_of_block (Blk.new _ _ _)) (by simp [Value.oneCell']) (by simp only [maxLen]; omega) (by omega) (by first | omega | (simp; omega)) ?_; intro vp' w6 hown' hgrow _ hh4; obtain ⟨gp', cp', rfl, _, _⟩ := own_form hown' (by omega))
          have HB6 : Hid (Below w.heap.size w w6) := HA6.out.grown hgrow (by first | omega | (simp; omega)) fun j ej => (HOP6.out.lt j ej).1
          have HOW7 := Lib.hid (HOW6.out.kept hgrow (apart_or HAP.out))
          have HOQ7 := Lib.hid (HOQ6.out.kept hgrow (apart14 HOQ6.out HOP6.out (by decide)))
          have HAP7 := Lib.hid (apart_new HAP.out HOW6.out (Nat.le_refl _) hh4)
          have HOP7 : Hid (w6.ownsRow w.heap.size 30 2 (.slice (some ⟨gp', 0, none⟩) (m + 1) cp') (m + 1) (pgV (pw14 L H (m + 1)))) := by
            rw [PW.out, pgV_snoc]
            exact hown'
          clear hown' hgrow hh4 HA6 HOP6 HOW6 HOQ6 HAP HB HB5 hs5 PW
          go_wp2_with fail
          refine (refOne14_any (m : Int) (HQI.out _ HOQ7.out HB6.out)).mono ?_
          rintro e w7 ⟨rfl, hb⟩
          have hOP8 := own_below HOP7.out hb
          have hOW8 := own_below HOW7.out hb
          have HB8 := Lib.hid (below2 HB6.out hb)
          generalize Hs.oneL (Hs.goes m L) (m : Int) = P2 at *
          obtain ⟨a2, s2⟩ := P2
          clear hb
          have hs8 := HB8.out.size
          have hA8 : Below w7.heap.size w7 (w7.alloc (.cells #[.int .i64 a2, .string s2] 30)) := (Below.refl _ _).alloc (Nat.le_refl _) _
          have HOP9 := Lib.hid (own_below hOP8 hA8)
          have HOW9 := Lib.hid (own_below hOW8 hA8)
          have HA9 := Lib.hid (below2 HB8.out hA8)
          clear hA8 hOP8 hOW8 HOQ7 HOP7 HOW7 HB6 HQI HTI UPT
          go_wp2_with (at_builtin; refine wpList_append_own_at _ rfl (.tmp 107) (.tmp 111) 23 rfl w.heap.size 30 j0 _ 2 24 Try.underlying23 hj0 hy0 hy1 hy2 rfl (by decide) _ _ _ rfl HOW9.out ⟨w7.heap.size, 0, none⟩ 1 1 [.int .i64 a2, .string s2] rfl rfl (World.news_of_block (Blk.new _ _ _)) (by simp [Value.oneCell']) (by simp only [maxLen]; omega) (by omega) (by first | omega | (simp; omega)) ?_; intro vw' w8 hown' hgrow _ hh4; obtain ⟨gw', cw', rfl, _, _⟩ := own_form hown' (by omega))
          have HB9 : Hid (Below w.heap.size w w8) := HA9.out.grown hgrow (by first | omega | (simp; omega)) fun j ej => (HOW9.out.lt j ej).1
          have HOP10 := Lib.hid (HOP9.out.kept hgrow (apart_or (apart_sym HAP7.out)))
          have HAP10 := Lib.hid (apart_sym (apart_new (apart_sym HAP7.out) HOP9.out (Nat.le_refl _) hh4))
          have HOW10 : Hid (w8.ownsRow w.heap.size 30 2 (.slice (some ⟨gw', 0, none⟩) (m + 1) cw') (m + 1) (pgV (ww14 L (m + 1)))) := by
            rw [WW.out, pgV_snoc]
            exact hown'
          clear hown' hgrow hh4 HA9 HOP9 HOW9 HAP7 HB8 hs8 WW
          go_wp2
          exact ⟨⟨m + 1, by go_num, HLM.out, by rw [HFR.out], HOP10.out, HOW10.out, HAP10.out, HB9.out⟩, by simp [intOf]; have := HLM.out; omega⟩
   · obtain rfl : m = H.length := by omega
     obtain ⟨E, hE⟩ := mod300 early
     have hF := FG.out H.length
     have HWH := Lib.hid (WH.out H.length (Hs.fromL L (kf14 L H) H.length - (E : Int)) (by omega))
     have hsub : IntKind.i64.wrap (Hs.fromL L (kf14 L H) H.length - (E : Int)) = Hs.fromL L (kf14 L H) H.length - (E : Int) := by rw [IntKind.wrap_i64]; omega
     have hsub2 : wrap64 (Hs.fromL L (kf14 L H) H.length - (E : Int)) = Hs.fromL L (kf14 L H) H.length - (E : Int) := by unfold wrap64; omega
     obtain ⟨pa7, pc7, rfl⟩ := own_slice HOP.out
     have hip : IsPgs wr (.slice pa7 H.length pc7) (pw14 L H H.length) := .ofOwn (by rw [pw_len]; exact HOP.out)
     have hiw : IsPgs wr u8 (ww14 L H.length) := .ofOwn (by rw [ww_len]; exact HOW.out)
     have C := H1.out wr HB.out (Hs.fromL L (kf14 L H) H.length - (E : Int)) _ _ hip (by rw [pw_len]; omega) (pw_small L H H.length)
     rw [HWH.out, pw_len] at C
     have C := Lib.hid C
     have HIW := Lib.hid hiw
     clear hip hiw HOP HOW HAP hF
     generalize Hs.fromL L (kf14 L H) H.length = F at *
     go_wp2_with fail
     refine C.out.mono ?_
     rintro e w4 ⟨⟨g, rfl, hg, hG⟩, hb⟩
     have HB4 := Lib.hid (below2 HB.out hb)
     have C2 := Lib.hid (refSame14_any (IsPgs.ofBlk hG (ww_len L H.length) (by unfold maxLen; omega)) (HIW.out.keep hb) true (decide_eq_true rfl).symm)
     obtain ⟨uw, cw, e8⟩ := HIW.out.form
     rw [ww_len] at e8
     subst e8
     clear hb hG hg C
     go_wp2_with fail
     refine C2.out.mono ?_
     rintro e w5 ⟨rfl, hb⟩
     have HB5 := Lib.hid (below2 HB4.out hb)
     clear hb
     go_wp2
     go_ret
     exact ⟨rfl, HB5.out⟩
theorem redoWhole_cons (v : Value) (L : List Ent) (vh : Value) (H : List UInt8) (early : Int) (w : World) (hv : IsEnts w v L) (hz : ∀ x ∈ L, Sized x.2) (hR : Reads w vh (H.map fun b => Value.int .u8 (b.toNat : Int))) (h_FW : FewL L) (h_RW : Ch.Rises L) (hH : H.length ≤ 8)
    (hone : ∀ x ∈ L, 1 ≤ x.1) (hL : 0 < L.length) : Calls Try.prog 4 #[v, vh, .int .i64 early] w fun e w' => e = .returned (.bool true) ∧ Below w.heap.size w w' := by
  have AW := Lib.hid awake14
  have FW := Lib.hid (fun W (h : Below w.heap.size w W) => refFew (hv.keep h) hz true ⟨fun _ => h_FW, fun _ => rfl⟩)
  have RW := Lib.hid (fun W (h : Below w.heap.size w W) => refRises (hv.keep h) true (decide_eq_true h_RW).symm)
  have FWT := Lib.hid (fit_after h_FW)
  have hLn : L.length ≤ 200 := h_FW.1
  have H1 := Lib.hid (fun W (h : Below w.heap.size w W) from_ u (q : List Hs.Pge) (hq : IsPgs W u q) (h1 : q.length ≤ 1000) (h2 : ∀ p ∈ q, p.2.size ≤ 100000) => rdPages_any from_ (hv.keep h) (fit_after h_FW) hq h1 h2)
  have WH := Lib.hid (fun m from_ => whole14 h_RW hone H m (from_ := from_))
  have FG := Lib.hid (fun m => Hs.fromL_ge hone (kf14 L H) m)
  obtain ⟨va, vc, rfl, hvc, _, hx⟩ := hv
  have HX := Lib.hid hx
  obtain ⟨b, off, vt, vp, rfl, lt0, h00, hjunk, hjunk2⟩ := hx 0 hL
  clear hjunk hjunk2
  have hd : decide ((0 : Int) < L.length) = true := by rw [decide_eq_true_eq]; omega
  have hdi : (0 : Int) < L.length := by omega
  have hz1 : ¬ L[0].1 < 1 := by have := hone _ (List.getElem_mem hL); omega
  generalize L[0].1 = z0 at *
  rw [Nat.zero_mul, Nat.add_zero] at h00
  have HC0 := Lib.hid h00
  have HLT0 := Lib.hid lt0
  clear h00 lt0
  obtain ⟨ra, rc, rfl, _, hr⟩ := hR
  rw [List.length_map]
  have HR := Lib.hid hr
  have hd8 : decide ((8 : Int) < H.length) = false := by rw [decide_eq_false_iff_not]; omega
  have hd8i : ¬ (8 : Int) < H.length := by omega
  have HL := Lib.hid hL
  obtain ⟨i0, hi0, hzz⟩ := Option.map_eq_some_iff.1 infoEnt
  simp only [Prod.mk.injEq] at hzz
  obtain ⟨hz0, hz1', hz2⟩ := hzz
  obtain ⟨j0, hj0, hyy⟩ := Option.map_eq_some_iff.1 infoPg
  simp only [Prod.mk.injEq] at hyy
  obtain ⟨hy0, hy1, hy2⟩ := hyy
  clear hx hr hz h_FW h_RW hone hL
  go_enter Try.func4, Try.ntmps4
  go_wp2_with fail
  refine (AW.out _).mono ?_
  rintro e w1 ⟨rfl, hb⟩
  have HB1 := Lib.hid hb
  clear hb
  go_wp2_with fail
  refine (FW.out _ HB1.out).mono ?_
  rintro e w2 ⟨rfl, hb⟩
  have HB2 := Lib.hid (below2 HB1.out hb)
  clear hb FW
  go_wp2_with fail
  refine (RW.out _ HB2.out).mono ?_
  rintro e w3 ⟨rfl, hb⟩
  have HB3 := Lib.hid (below2 HB2.out hb)
  have h00 : w3.cell? ⟨b, off, none⟩ = some (.int .i64 z0) := (HB3.out.cell (p := ⟨b, off, none⟩) HLT0.out).trans HC0.out
  clear hb RW AW
  go_wp2_with fail
  go_loopw [7, 8, 9, 48] (fun vp vw vf vk wr => ∃ m : Nat, vk = .int .i64 m ∧ m ≤ H.length ∧ vf = .int .i64 (Hs.fromL L (kf14 L H) m) ∧ wr.ownsRow w.heap.size 30 2 vp m (pgV (pw14 L H m)) ∧ wr.ownsRow w.heap.size 30 2 vw m (pgV (ww14 L m)) ∧ (∀ b, vp.ownBlock = some b → vw.ownBlock ≠ some b) ∧ Below w.heap.size w wr) (fun _ _ _ vk _ => H.length - (intOf vk).toNat)
  case atStart =>
    exact ⟨0, rfl, Nat.zero_le _, rfl, World.ownsRow_nil _ _ _ 2, World.ownsRow_nil _ _ _ 2, nofun, HB3.out⟩
  case round =>
   obtain ⟨m, rfl, hm, rfl, hop, how, hap, hB⟩ := hrel
   clear HB3 h00
   have HOP := Lib.hid hop
   have HOW := Lib.hid how
   have HAP := Lib.hid hap
   have HB := Lib.hid hB
   clear hop how hap hB
   by_cases hlm : m < H.length
   · have HLM := Lib.hid hlm
     have hmI : (m : Int) < H.length := by omega
     have hg : (H.map fun b => Value.int .u8 (b.toNat : Int))[m]? = some (.int .u8 (H[m].toNat : Int)) := by rw [List.getElem?_map, List.getElem?_eq_getElem hlm]; rfl
     obtain ⟨rb, ro, rfl, hcm⟩ := HR.out m _ hg
     have c0 : wr.cell? ⟨rb, ro + m, none⟩ = some (.int .u8 (H[m].toNat : Int)) := (HB.out.cell (p := ⟨rb, ro + m, none⟩) (World.block_lt_of_cell? w _ hcm)).trans hcm
     have hby : H[m].toNat < 256 := H[m].toNat_lt
     have HK : Hid (kf14 L H m = H[m].toNat % ((Hs.goes m L).length + 1)) := by
       show _ = _
       have e : H.getD m 0 = H[m] := by rw [List.getD_eq_getElem?_getD, List.getElem?_eq_getElem hlm]; rfl
       unfold kf14
       rw [e]
     generalize H[m].toNat = by_ at *
     clear hg hcm
     clear hlm
     go_wp2_with fail
     go_loopw [12, 55] (fun vo vk wi => ∃ (k : Nat) (q : List Qx), vk = .int .i64 k ∧ k ≤ L.length ∧ wi.ownsRow w.heap.size 39 12 vo q.length (qV q) ∧ q.length ≤ k ∧ q.map Qx.ent = Hs.goes m (L.take k) ∧ (∀ x ∈ q, Lists w x.r x.vt x.vp) ∧ wi.ownsRow w.heap.size 30 2 u7 m (pgV (pw14 L H m)) ∧ wi.ownsRow w.heap.size 30 2 u8 m (pgV (ww14 L m)) ∧ Below w.heap.size w wi) (fun _ vk _ => L.length - (intOf vk).toNat)
     case atStart => exact ⟨0, [], rfl, Nat.zero_le _, World.ownsRow_nil _ _ _ 12, Nat.le_refl _, rfl, nofun, HOP.out, HOW.out, HB.out⟩
     case round =>
      obtain ⟨k, q, rfl, hk, hoq, hqk, hq, hql, hop, how, hB⟩ := hrel
      clear HB HOP HOW c0
      have HOQ := Lib.hid hoq
      have HQ := Lib.hid hq
      have HQL := Lib.hid hql
      have HOP := Lib.hid hop
      have HOW := Lib.hid how
      have HB := Lib.hid hB
      clear hoq hq hql hop how hB
      by_cases hlt : k < L.length
      · have HLT := Lib.hid hlt
        have hkI : (k : Int) < L.length := by omega
        have HTK := Lib.hid (Hs.goes_take hlt m)
        obtain ⟨b', off', vt, vp, e0, lt0, la, ci0⟩ := HX.out.whole k hlt
        simp only [Option.some.injEq, Addr.mk.injEq, and_true] at e0
        obtain ⟨rfl, rfl⟩ := e0
        have ci := fun i x (h : (entCells L[k].1 L[k].2 vt vp)[i]? = some x) => (HB.out.cell (p := ⟨b, off + k * 12 + i, none⟩) lt0).trans (ci0 i x h)
        have lt1 : b < wr.heap.size := Nat.lt_of_lt_of_le lt0 HB.out.size
        clear ci0 lt0
        generalize L[k] = x at *
        clear hlt
        obtain ⟨at_, r⟩ := x
        simp only at la ci
        obtain ⟨ta, tc, rfl⟩ := la.t.form
        obtain ⟨qa, qc, rfl⟩ := la.p.form
        have c0 : wr.cell? ⟨b, off + k * 12 + 0, none⟩ = _ := ci 0 _ rfl
        have c1 : wr.cell? ⟨b, off + k * 12 + 1, none⟩ = _ := ci 1 _ rfl
        have c2 : wr.cell? ⟨b, off + k * 12 + 2, none⟩ = _ := ci 2 _ rfl
        have c3 : wr.cell? ⟨b, off + k * 12 + 3, none⟩ = _ := ci 3 _ rfl
        have c4 : wr.cell? ⟨b, off + k * 12 + 4, none⟩ = _ := ci 4 _ rfl
        have c5 : wr.cell? ⟨b, off + k * 12 + 5, none⟩ = _ := ci 5 _ rfl
        have c6 : wr.cell? ⟨b, off + k * 12 + 6, none⟩ = _ := ci 6 _ rfl
        have c7 : wr.cell? ⟨b, off + k * 12 + 7, none⟩ = _ := ci 7 _ rfl
        have c8 : wr.cell? ⟨b, off + k * 12 + 8, none⟩ = _ := ci 8 _ rfl
        have c9 : wr.cell? ⟨b, off + k * 12 + 9, none⟩ = _ := ci 9 _ rfl
        have c10 : wr.cell? ⟨b, off + k * 12 + 10, none⟩ = _ := ci 10 _ rfl
        have c11 : wr.cell? ⟨b, off + k * 12 + 11, none⟩ = _ := ci 11 _ rfl
        rw [Nat.add_zero] at c0
        clear ci
        have hn := Blk.new wr 39 #[.int .i64 0, .int .i64 0, .int .i64 0, .int .i64 0, .int .i64 0, .int .i64 0, .int .i64 0, .int .i64 0, .string ⟨#[]⟩, .string ⟨#[]⟩, .slice none 0 0, .slice none 0 0]
        have N3 := hn.setRow (entCells at_ r (.slice ta r.txns.length tc) (.slice qa r.pages.length qc))
        have hb3 := below_setRow ((Below.refl wr.heap.size wr).alloc (Nat.le_refl _) (.cells #[.int .i64 0, .int .i64 0, .int .i64 0, .int .i64 0, .int .i64 0, .int .i64 0, .int .i64 0, .int .i64 0, .string ⟨#[]⟩, .string ⟨#[]⟩, .slice none 0 0, .slice none 0 0] 39)) (Nat.le_refl _) (entCells at_ r (.slice ta r.txns.length tc) (.slice qa r.pages.length qc))
        have HL3 := Lib.hid la
        have HO3 := Lib.hid (own_below HOQ.out hb3)
        have HOP3 := Lib.hid (own_below HOP.out hb3)
        have HOW3 := Lib.hid (own_below HOW.out hb3)
        have HB3 := Lib.hid (below2 HB.out hb3)
        clear hb3 HB la HOQ HOP HOW
        go_upto_region 12 with (refine wpList_store_row rfl 39 _ _ rfl wr.heap.size _ rfl rfl 39 _ hn (by kernel_rfl) rfl (by simp [entCells, Value.oneCell']) ?_)
        change Code.wp _ _ _ _ ((wr.alloc (.cells #[.int .i64 0, .int .i64 0, .int .i64 0, .int .i64 0, .int .i64 0, .int .i64 0, .int .i64 0, .int .i64 0, .string ⟨#[]⟩, .string ⟨#[]⟩, .slice none 0 0, .slice none 0 0] 39)).setRow wr.heap.size (entCells at_ r (.slice ta r.txns.length tc) (.slice qa r.pages.length qc)))
        clear hn c0 c1 c2 c3 c4 c5 c6 c7 c8 c9 c10 c11 lt1
        generalize (wr.alloc _).setRow _ _ = wx at *
        generalize wr.heap.size = y at *
        have HWA := Lib.hid (fun (e : ¬ r.page = (m : Int)) => HTK.out.trans (if_neg fun h => e h.1))
        have HWB := Lib.hid (fun (e : ¬ Hs.Goes r) => HTK.out.trans (if_neg fun h => e h.2.1))
        have HWC := Lib.hid (fun (e : ¬ at_ ≤ 2147483647) => HTK.out.trans (if_neg fun h => e h.2.2))
        have HWD := Lib.hid (fun (e1 : r.page = (m : Int)) (e2 : Hs.Goes r) (e3 : at_ ≤ 2147483647) => HTK.out.trans (if_pos ⟨e1, e2, e3⟩))
        clear HTK
        obtain ⟨pg, hpg⟩ : ∃ pg, pg = r.page := ⟨_, rfl⟩
        unfold entCells at N3
        have N4 := Lib.hid N3
        have HPG := Lib.hid hpg
        by_cases hp : pg = (m : Int)
        · have hp2 : r.page = (m : Int) := hpg.symm.trans hp
          have hb2 : (r.page == (m : Int)) = true := by rw [beq_iff_eq]; exact hp2
          have HPB := Lib.hid hb2
          have HP2 := Lib.hid hp2
          obtain ⟨z, D, hzD⟩ : ∃ z D, Hs.apP (0, noughts) 1 r = (z, D) := ⟨_, _, rfl⟩
          have hgz : z = 1 ↔ Hs.Goes r := by
            have := Hs.apP_one r
            rw [noughts_P, hzD] at this
            exact this
          have EM := Lib.hid pgRefEmpty_any
          have AP : Hid (∀ W, Below wx.drew.heap.size wx.drew W → Calls Try.prog 18 #[.agg #[.int .i64 0, .string noughts], .int .i64 1, .agg #[.int .i64 r.kind, .int .i64 r.txn, .int .i64 r.page, .int .i64 r.off, .int .i64 r.prev, .int .i64 r.next, .int .i64 r.beg, .string r.before, .string r.after, .slice ta r.txns.length tc, .slice qa r.pages.length qc]] W fun e w' => e = .returned (.agg #[.int .i64 z, .string D]) ∧ Below W.heap.size W w') := fun W hW => by
            have := pgRefApply_any 0 1 noughts (r := r) (w := W) ⟨_, _, rfl, (HL3.out.keep (HB3.out.drew)).keep hW⟩
            rwa [applyR_P, hzD] at this
          have XC : Hid (∀ W, Below wx.drew.heap.size wx.drew W → Blk W y 39 #[.int .i64 at_, .int .i64 r.kind, .int .i64 r.txn, .int .i64 r.page, .int .i64 r.off, .int .i64 r.prev, .int .i64 r.next, .int .i64 r.beg, .string r.before, .string r.after, .slice ta r.txns.length tc, .slice qa r.pages.length qc]) := fun W hW => N4.out.drew.keep hW N4.out.lt
          have FD : Hid (∀ W : World, (Instr.field 30 (.agg #[.int .i64 z, .string D]) 0).run Try.prog W = .ok (.int .i64 z) W) := fun _ => by kernel_rfl
          generalize noughts = nou at *
          clear N3 hpg hp hp2 hb2 hzD
          by_cases hgo : Hs.Goes r
          · obtain rfl : z = 1 := hgz.2 hgo
            have HGO := Lib.hid hgo
            clear hgz hgo
            by_cases hle : at_ ≤ 2147483647
            · have hdl : decide (at_ ≤ 2147483647) = true := decide_eq_true hle
              have HDL := Lib.hid hdl
              have HT := Lib.hid (HWD.out HP2.out HGO.out hle)
              clear hle hdl HWA HWB HWC HWD
              go_upto_region 12 with fail
              refine' wp_region_conf 18 (.is _ :: .is _ :: .is _ :: .is _ :: .is _ :: .is _ :: .is _ :: .is _ :: .is _ :: .is _ :: .is _ :: .is _ :: .is _ :: .is _ :: .is _ :: .is _ :: .is _ :: .is _ :: []) (by kernel_rfl) (by kernel_rfl) (by kernel_rfl) (by kernel_rfl) rfl ?main
              case main =>
                iterate 2 (
                  apply obs_step
                  · rfl
                  · intro w9 hE9 hk9
                    clear hk9 hE9
                    as_aux_lemma =>
                      go_wp2
                      refine post_eq ?_ (Below.refl _ _)
                      simp only [Act.put, List.setIfInBounds_toArray, List.set_cons_zero, List.set_cons_succ]
                      try rfl
                  · simp only [Act.put, List.setIfInBounds_toArray, List.set_cons_zero, List.set_cons_succ]
                    rfl)
                iterate 1 (
                  apply obs_step
                  · rfl
                  · intro w9 hE9 hk9
                    have d3 := (XC.out w9 hE9).cell 3
                    simp only [List.getElem?_toArray, List.getElem?_cons_zero, List.getElem?_cons_succ] at d3
                    clear hk9 hE9
                    as_aux_lemma =>
                      go_wp2
                      refine post_eq ?_ (Below.refl _ _)
                      simp only [Act.put, List.setIfInBounds_toArray, List.set_cons_zero, List.set_cons_succ]
                      try rfl
                  · simp only [Act.put, List.setIfInBounds_toArray, List.set_cons_zero, List.set_cons_succ]
                    rfl)
                iterate 1 (
                  apply obs_step
                  · rfl
                  · intro w9 hE9 hk9
                    clear hk9 hE9
                    as_aux_lemma =>
                      go_wp2
                      refine post_eq ?_ (Below.refl _ _)
                      simp only [Act.put, List.setIfInBounds_toArray, List.set_cons_zero, List.set_cons_succ]
                      try rfl
                  · simp only [Act.put, List.setIfInBounds_toArray, List.set_cons_zero, List.set_cons_succ]
                    rfl)
                iterate 1 (
                  apply obs_step
                  · rfl
                  · intro w9 hE9 hk9
                    have x2 := HPB.out
                    clear hk9 hE9
                    as_aux_lemma =>
                      go_wp2
                      refine post_eq ?_ (Below.refl _ _)
                      simp only [Act.put, List.setIfInBounds_toArray, List.set_cons_zero, List.set_cons_succ]
                      try rfl
                  · simp only [Act.put, List.setIfInBounds_toArray, List.set_cons_zero, List.set_cons_succ]
                    rfl)
                iterate 1 (
                  apply obs_step
                  · rfl
                  · intro w9 hE9 hk9
                    clear hk9 hE9
                    as_aux_lemma =>
                      go_wp2
                      refine post_eq ?_ (Below.refl _ _)
                      simp only [Act.put, List.setIfInBounds_toArray, List.set_cons_zero, List.set_cons_succ]
                      try rfl
                  · simp only [Act.put, List.setIfInBounds_toArray, List.set_cons_zero, List.set_cons_succ]
                    rfl)
                iterate 1 (
                  apply obs_step
                  · rfl
                  · intro w9 hE9 hk9
                    have AP9 := EM.out w9
                    clear hk9 hE9
                    as_aux_lemma =>
                      go_wp2_with fail
                      refine (AP9.mono ?_)
                      rintro e w10 ⟨rfl, hb10⟩
                      go_wp2
                      refine post_eq ?_ hb10
                      simp only [Act.put, List.setIfInBounds_toArray, List.set_cons_zero, List.set_cons_succ]
                      try rfl
                  · simp only [Act.put, List.setIfInBounds_toArray, List.set_cons_zero, List.set_cons_succ]
                    rfl)
                iterate 1 (
                  apply obs_step
                  · rfl
                  · intro w9 hE9 hk9
                    clear hk9 hE9
                    as_aux_lemma =>
                      go_wp2
                      refine post_eq ?_ (Below.refl _ _)
                      simp only [Act.put, List.setIfInBounds_toArray, List.set_cons_zero, List.set_cons_succ]
                      try rfl
                  · simp only [Act.put, List.setIfInBounds_toArray, List.set_cons_zero, List.set_cons_succ]
                    rfl)
                iterate 1 (
                  apply obs_step
                  · rfl
                  · intro w9 hE9 hk9
                    have N9 := XC.out w9 hE9
                    have d0 := N9.cell 0
                    have d1 := N9.cell 1
                    have d2 := N9.cell 2
                    have d3 := N9.cell 3
                    have d4 := N9.cell 4
                    have d5 := N9.cell 5
                    have d6 := N9.cell 6
                    have d7 := N9.cell 7
                    have d8 := N9.cell 8
                    have d9 := N9.cell 9
                    have d10 := N9.cell 10
                    have d11 := N9.cell 11
                    simp only [List.getElem?_toArray, List.getElem?_cons_zero, List.getElem?_cons_succ] at d0 d1 d2 d3 d4 d5 d6 d7 d8 d9 d10 d11
                    clear N9
                    clear hk9 hE9
                    as_aux_lemma =>
                      go_wp2
                      refine post_eq ?_ (Below.refl _ _)
                      simp only [Act.put, List.setIfInBounds_toArray, List.set_cons_zero, List.set_cons_succ]
                      try rfl
                  · simp only [Act.put, List.setIfInBounds_toArray, List.set_cons_zero, List.set_cons_succ]
                    rfl)
                iterate 1 (
                  apply obs_step
                  · rfl
                  · intro w9 hE9 hk9
                    have AP9 := AP.out w9 hE9
                    clear hk9 hE9
                    as_aux_lemma =>
                      go_wp2_with fail
                      refine (AP9.mono ?_)
                      rintro e w10 ⟨rfl, hb10⟩
                      go_wp2
                      refine post_eq ?_ hb10
                      simp only [Act.put, List.setIfInBounds_toArray, List.set_cons_zero, List.set_cons_succ]
                      try rfl
                  · simp only [Act.put, List.setIfInBounds_toArray, List.set_cons_zero, List.set_cons_succ]
                    rfl)
                iterate 1 (
                  apply obs_step
                  · rfl
                  · intro w9 hE9 hk9
                    have f1 := FD.out
                    clear hk9 hE9
                    as_aux_lemma =>
                      go_wp2
                      refine post_eq ?_ (Below.refl _ _)
                      simp only [Act.put, List.setIfInBounds_toArray, List.set_cons_zero, List.set_cons_succ]
                      try rfl
                  · simp only [Act.put, List.setIfInBounds_toArray, List.set_cons_zero, List.set_cons_succ]
                    rfl)
                iterate 1 (
                  apply obs_step
                  · rfl
                  · intro w9 hE9 hk9
                    clear hk9 hE9
                    as_aux_lemma =>
                      go_wp2
                      refine post_eq ?_ (Below.refl _ _)
                      simp only [Act.put, List.setIfInBounds_toArray, List.set_cons_zero, List.set_cons_succ]
                      try rfl
                  · simp only [Act.put, List.setIfInBounds_toArray, List.set_cons_zero, List.set_cons_succ]
                    rfl)
                iterate 2 (
                  apply obs_step
                  · rfl
                  · intro w9 hE9 hk9
                    clear hk9 hE9
                    as_aux_lemma =>
                      go_wp2
                      refine post_eq ?_ (Below.refl _ _)
                      simp only [Act.put, List.setIfInBounds_toArray, List.set_cons_zero, List.set_cons_succ]
                      try rfl
                  · simp only [Act.put, List.setIfInBounds_toArray, List.set_cons_zero, List.set_cons_succ]
                    rfl)
                iterate 1 (
                  apply obs_step
                  · rfl
                  · intro w9 hE9 hk9
                    clear hk9 hE9
                    as_aux_lemma =>
                      go_wp2
                      refine post_eq ?_ (Below.refl _ _)
                      simp only [Act.put, List.setIfInBounds_toArray, List.set_cons_zero, List.set_cons_succ]
                      try rfl
                  · simp only [Act.put, List.setIfInBounds_toArray, List.set_cons_zero, List.set_cons_succ]
                    rfl)
                iterate 1 (
                  apply obs_step
                  · rfl
                  · intro w9 hE9 hk9
                    have d0 := (XC.out w9 hE9).cell 0
                    simp only [List.getElem?_toArray, List.getElem?_cons_zero, List.getElem?_cons_succ] at d0
                    clear hk9 hE9
                    as_aux_lemma =>
                      go_wp2
                      refine post_eq ?_ (Below.refl _ _)
                      simp only [Act.put, List.setIfInBounds_toArray, List.set_cons_zero, List.set_cons_succ]
                      try rfl
                  · simp only [Act.put, List.setIfInBounds_toArray, List.set_cons_zero, List.set_cons_succ]
                    rfl)
                iterate 1 (
                  apply obs_step
                  · rfl
                  · intro w9 hE9 hk9
                    have x4 := HDL.out
                    clear hk9 hE9
                    as_aux_lemma =>
                      go_wp2
                      refine post_eq ?_ (Below.refl _ _)
                      simp only [Act.put, List.setIfInBounds_toArray, List.set_cons_zero, List.set_cons_succ]
                      try rfl
                  · simp only [Act.put, List.setIfInBounds_toArray, List.set_cons_zero, List.set_cons_succ]
                    rfl)
                iterate 1 (
                  apply obs_step
                  · rfl
                  · intro w9 hE9 hk9
                    clear hk9 hE9
                    as_aux_lemma =>
                      go_wp2
                      refine post_eq ?_ (Below.refl _ _)
                      simp only [Act.put, List.setIfInBounds_toArray, List.set_cons_zero, List.set_cons_succ]
                      try rfl
                  · simp only [Act.put, List.setIfInBounds_toArray, List.set_cons_zero, List.set_cons_succ]
                    rfl)
                refine obs_end fun w8 hE9 _ => ?_
                have hB8 := HB3.out.drew.trans (hE9.mono HB3.out.size)
                have hE8 := (Below.refl wx.heap.size wx).drew.trans hE9
                have HO8 := Lib.hid (own_below HO3.out hE8)
                have HOP8 := Lib.hid (own_below HOP3.out hE8)
                have HOW8 := Lib.hid (own_below HOW3.out hE8)
                have HB8 := Lib.hid hB8
                clear hE9 hB8 XC HO3 HOP3 HOW3 HB3 EM AP FD
                go_upto_region 13 with fail
                have N8 := N4.out.keep hE8 N4.out.lt
                have hw8 := HB8.out.size
                clear hE8
                go_wp2_with (first
                  | (refine wpList_load_row rfl 39 _ rfl y rfl 39 _ (0, 0) _ N8 Try.underlying39 rfl (by kernel_rfl) ?_)
                  | (at_builtin; refine wpList_append_own_at _ rfl (.tmp 77) (.tmp 79) 22 rfl w.heap.size 39 i0 _ 12 144 Try.underlying22 hi0 hz0 hz1' hz2 rfl (by decide) _ _ _ rfl (HO8.out.alloc _) ⟨w8.heap.size, 0, none⟩ 1 1 [.int .i64 at_, .int .i64 r.kind, .int .i64 r.txn, .int .i64 r.page, .int .i64 r.off, .int .i64 r.prev, .int .i64 r.next, .int .i64 r.beg, .string r.before, .string r.after, .slice ta r.txns.length tc, .slice qa r.pages.length qc] rfl rfl (World.news_of_block (Blk.new _ _ _)) (by simp [Value.oneCell']) (by simp only [maxLen]; omega) (by omega) (by first | omega | (simp; omega)) ?_; intro v' w6 hown' hgrow _ _; obtain ⟨g', cap', rfl, _, _⟩ := own_form hown' (by omega)))
                have hB5 : Below w8.heap.size w8 (w8.alloc (.cells #[.int .i64 at_, .int .i64 r.kind, .int .i64 r.txn, .int .i64 r.page, .int .i64 r.off, .int .i64 r.prev, .int .i64 r.next, .int .i64 r.beg, .string r.before, .string r.after, .slice ta r.txns.length tc, .slice qa r.pages.length qc] 39)) := (Below.refl _ _).alloc (Nat.le_refl _) _
                have hB6 : Below w.heap.size w w6 := (below2 HB8.out hB5).grown hgrow (by first | omega | (simp; omega)) fun j ej => (HO8.out.lt j ej).1
                have hO9 := HO8.out.alloc (.cells #[.int .i64 at_, .int .i64 r.kind, .int .i64 r.txn, .int .i64 r.page, .int .i64 r.off, .int .i64 r.prev, .int .i64 r.next, .int .i64 r.beg, .string r.before, .string r.after, .slice ta r.txns.length tc, .slice qa r.pages.length qc] 39)
                have hP9 := HOP8.out.alloc (.cells #[.int .i64 at_, .int .i64 r.kind, .int .i64 r.txn, .int .i64 r.page, .int .i64 r.off, .int .i64 r.prev, .int .i64 r.next, .int .i64 r.beg, .string r.before, .string r.after, .slice ta r.txns.length tc, .slice qa r.pages.length qc] 39)
                have hW9 := HOW8.out.alloc (.cells #[.int .i64 at_, .int .i64 r.kind, .int .i64 r.txn, .int .i64 r.page, .int .i64 r.off, .int .i64 r.prev, .int .i64 r.next, .int .i64 r.beg, .string r.before, .string r.after, .slice ta r.txns.length tc, .slice qa r.pages.length qc] 39)
                have hP6 := hP9.kept hgrow (apart14 hP9 hO9 (by decide))
                have hW6 := hW9.kept hgrow (apart14 hW9 hO9 (by decide))
                refine ⟨⟨k + 1, q ++ [⟨at_, r, .slice ta r.txns.length tc, .slice qa r.pages.length qc⟩], by go_num, HLT.out, ?_, by simp; omega, ?_, ?_, hP6, hW6, hB6⟩, by simp [intOf]; have := HLT.out; omega⟩
                · rw [qV_snoc, List.length_append]
                  exact hown'
                · rw [HT.out, List.map_append, ← HQ.out]
                  rfl
                · intro y hy
                  rcases List.mem_append.1 hy with hy | hy
                  · exact HQL.out y hy
                  · rw [List.mem_singleton.1 hy]; exact HL3.out
            · have hdl : decide (at_ ≤ 2147483647) = false := decide_eq_false hle
              have HDL := Lib.hid hdl
              have HT := Lib.hid (HWC.out hle)
              clear hle hdl HWA HWB HWC HWD
              go_upto_region 12 with fail
              refine' wp_region_conf 18 (.is _ :: .is _ :: .is _ :: .is _ :: .is _ :: .is _ :: .is _ :: .is _ :: .is _ :: .is _ :: .is _ :: .is _ :: .is _ :: .is _ :: .is _ :: .is _ :: .is _ :: .is _ :: []) (by kernel_rfl) (by kernel_rfl) (by kernel_rfl) (by kernel_rfl) rfl ?main
              case main =>
                iterate 2 (
                  apply obs_step
                  · rfl
                  · intro w9 hE9 hk9
                    clear hk9 hE9
                    as_aux_lemma =>
                      go_wp2
                      refine post_eq ?_ (Below.refl _ _)
                      simp only [Act.put, List.setIfInBounds_toArray, List.set_cons_zero, List.set_cons_succ]
                      try rfl
                  · simp only [Act.put, List.setIfInBounds_toArray, List.set_cons_zero, List.set_cons_succ]
                    rfl)
                iterate 1 (
                  apply obs_step
                  · rfl
                  · intro w9 hE9 hk9
                    have d3 := (XC.out w9 hE9).cell 3
                    simp only [List.getElem?_toArray, List.getElem?_cons_zero, List.getElem?_cons_succ] at d3
                    clear hk9 hE9
                    as_aux_lemma =>
                      go_wp2
                      refine post_eq ?_ (Below.refl _ _)
                      simp only [Act.put, List.setIfInBounds_toArray, List.set_cons_zero, List.set_cons_succ]
                      try rfl
                  · simp only [Act.put, List.setIfInBounds_toArray, List.set_cons_zero, List.set_cons_succ]
                    rfl)
                iterate 1 (
                  apply obs_step
                  · rfl
                  · intro w9 hE9 hk9
                    clear hk9 hE9
                    as_aux_lemma =>
                      go_wp2
                      refine post_eq ?_ (Below.refl _ _)
                      simp only [Act.put, List.setIfInBounds_toArray, List.set_cons_zero, List.set_cons_succ]
                      try rfl
                  · simp only [Act.put, List.setIfInBounds_toArray, List.set_cons_zero, List.set_cons_succ]
                    rfl)
                iterate 1 (
                  apply obs_step
                  · rfl
                  · intro w9 hE9 hk9
                    have x2 := HPB.out
                    clear hk9 hE9
                    as_aux_lemma =>
                      go_wp2
                      refine post_eq ?_ (Below.refl _ _)
                      simp only [Act.put, List.setIfInBounds_toArray, List.set_cons_zero, List.set_cons_succ]
                      try rfl
                  · simp only [Act.put, List.setIfInBounds_toArray, List.set_cons_zero, List.set_cons_succ]
                    rfl)
                iterate 1 (
                  apply obs_step
                  · rfl
                  · intro w9 hE9 hk9
                    clear hk9 hE9
                    as_aux_lemma =>
                      go_wp2
                      refine post_eq ?_ (Below.refl _ _)
                      simp only [Act.put, List.setIfInBounds_toArray, List.set_cons_zero, List.set_cons_succ]
                      try rfl
                  · simp only [Act.put, List.setIfInBounds_toArray, List.set_cons_zero, List.set_cons_succ]
                    rfl)
                iterate 1 (
                  apply obs_step
                  · rfl
                  · intro w9 hE9 hk9
                    have AP9 := EM.out w9
                    clear hk9 hE9
                    as_aux_lemma =>
                      go_wp2_with fail
                      refine (AP9.mono ?_)
                      rintro e w10 ⟨rfl, hb10⟩
                      go_wp2
                      refine post_eq ?_ hb10
                      simp only [Act.put, List.setIfInBounds_toArray, List.set_cons_zero, List.set_cons_succ]
                      try rfl
                  · simp only [Act.put, List.setIfInBounds_toArray, List.set_cons_zero, List.set_cons_succ]
                    rfl)
                iterate 1 (
                  apply obs_step
                  · rfl
                  · intro w9 hE9 hk9
                    clear hk9 hE9
                    as_aux_lemma =>
                      go_wp2
                      refine post_eq ?_ (Below.refl _ _)
                      simp only [Act.put, List.setIfInBounds_toArray, List.set_cons_zero, List.set_cons_succ]
                      try rfl
                  · simp only [Act.put, List.setIfInBounds_toArray, List.set_cons_zero, List.set_cons_succ]
                    rfl)
                iterate 1 (
                  apply obs_step
                  · rfl
                  · intro w9 hE9 hk9
                    have N9 := XC.out w9 hE9
                    have d0 := N9.cell 0
                    have d1 := N9.cell 1
                    have d2 := N9.cell 2
                    have d3 := N9.cell 3
                    have d4 := N9.cell 4
                    have d5 := N9.cell 5
                    have d6 := N9.cell 6
                    have d7 := N9.cell 7
                    have d8 := N9.cell 8
                    have d9 := N9.cell 9
                    have d10 := N9.cell 10
                    have d11 := N9.cell 11
                    simp only [List.getElem?_toArray, List.getElem?_cons_zero, List.getElem?_cons_succ] at d0 d1 d2 d3 d4 d5 d6 d7 d8 d9 d10 d11
                    clear N9
                    clear hk9 hE9
                    as_aux_lemma =>
                      go_wp2
                      refine post_eq ?_ (Below.refl _ _)
                      simp only [Act.put, List.setIfInBounds_toArray, List.set_cons_zero, List.set_cons_succ]
                      try rfl
                  · simp only [Act.put, List.setIfInBounds_toArray, List.set_cons_zero, List.set_cons_succ]
                    rfl)
                iterate 1 (
                  apply obs_step
                  · rfl
                  · intro w9 hE9 hk9
                    have AP9 := AP.out w9 hE9
                    clear hk9 hE9
                    as_aux_lemma =>
                      go_wp2_with fail
                      refine (AP9.mono ?_)
                      rintro e w10 ⟨rfl, hb10⟩
                      go_wp2
                      refine post_eq ?_ hb10
                      simp only [Act.put, List.setIfInBounds_toArray, List.set_cons_zero, List.set_cons_succ]
                      try rfl
                  · simp only [Act.put, List.setIfInBounds_toArray, List.set_cons_zero, List.set_cons_succ]
                    rfl)
                iterate 1 (
                  apply obs_step
                  · rfl
                  · intro w9 hE9 hk9
                    have f1 := FD.out
                    clear hk9 hE9
                    as_aux_lemma =>
                      go_wp2
                      refine post_eq ?_ (Below.refl _ _)
                      simp only [Act.put, List.setIfInBounds_toArray, List.set_cons_zero, List.set_cons_succ]
                      try rfl
                  · simp only [Act.put, List.setIfInBounds_toArray, List.set_cons_zero, List.set_cons_succ]
                    rfl)
                iterate 1 (
                  apply obs_step
                  · rfl
                  · intro w9 hE9 hk9
                    clear hk9 hE9
                    as_aux_lemma =>
                      go_wp2
                      refine post_eq ?_ (Below.refl _ _)
                      simp only [Act.put, List.setIfInBounds_toArray, List.set_cons_zero, List.set_cons_succ]
                      try rfl
                  · simp only [Act.put, List.setIfInBounds_toArray, List.set_cons_zero, List.set_cons_succ]
                    rfl)
                iterate 2 (
                  apply obs_step
                  · rfl
                  · intro w9 hE9 hk9
                    clear hk9 hE9
                    as_aux_lemma =>
                      go_wp2
                      refine post_eq ?_ (Below.refl _ _)
                      simp only [Act.put, List.setIfInBounds_toArray, List.set_cons_zero, List.set_cons_succ]
                      try rfl
                  · simp only [Act.put, List.setIfInBounds_toArray, List.set_cons_zero, List.set_cons_succ]
                    rfl)
                iterate 1 (
                  apply obs_step
                  · rfl
                  · intro w9 hE9 hk9
                    clear hk9 hE9
                    as_aux_lemma =>
                      go_wp2
                      refine post_eq ?_ (Below.refl _ _)
                      simp only [Act.put, List.setIfInBounds_toArray, List.set_cons_zero, List.set_cons_succ]
                      try rfl
                  · simp only [Act.put, List.setIfInBounds_toArray, List.set_cons_zero, List.set_cons_succ]
                    rfl)
                iterate 1 (
                  apply obs_step
                  · rfl
                  · intro w9 hE9 hk9
                    have d0 := (XC.out w9 hE9).cell 0
                    simp only [List.getElem?_toArray, List.getElem?_cons_zero, List.getElem?_cons_succ] at d0
                    clear hk9 hE9
                    as_aux_lemma =>
                      go_wp2
                      refine post_eq ?_ (Below.refl _ _)
                      simp only [Act.put, List.setIfInBounds_toArray, List.set_cons_zero, List.set_cons_succ]
                      try rfl
                  · simp only [Act.put, List.setIfInBounds_toArray, List.set_cons_zero, List.set_cons_succ]
                    rfl)
                iterate 1 (
                  apply obs_step
                  · rfl
                  · intro w9 hE9 hk9
                    have x4 := HDL.out
                    clear hk9 hE9
                    as_aux_lemma =>
                      go_wp2
                      refine post_eq ?_ (Below.refl _ _)
                      simp only [Act.put, List.setIfInBounds_toArray, List.set_cons_zero, List.set_cons_succ]
                      try rfl
                  · simp only [Act.put, List.setIfInBounds_toArray, List.set_cons_zero, List.set_cons_succ]
                    rfl)
                iterate 1 (
                  apply obs_step
                  · rfl
                  · intro w9 hE9 hk9
                    clear hk9 hE9
                    as_aux_lemma =>
                      go_wp2
                      refine post_eq ?_ (Below.refl _ _)
                      simp only [Act.put, List.setIfInBounds_toArray, List.set_cons_zero, List.set_cons_succ]
                      try rfl
                  · simp only [Act.put, List.setIfInBounds_toArray, List.set_cons_zero, List.set_cons_succ]
                    rfl)
                refine obs_end fun w8 hE9 _ => ?_
                have hB8 := HB3.out.drew.trans (hE9.mono HB3.out.size)
                have hE8 := (Below.refl wx.heap.size wx).drew.trans hE9
                have HO8 := Lib.hid (own_below HO3.out hE8)
                have HOP8 := Lib.hid (own_below HOP3.out hE8)
                have HOW8 := Lib.hid (own_below HOW3.out hE8)
                have HB8 := Lib.hid hB8
                clear hE9 hB8 XC HO3 HOP3 HOW3 HB3 EM AP FD
                clear hE8
                go_wp2
                exact ⟨⟨k + 1, q, by go_num, HLT.out, HO8.out, by omega, by rw [HT.out]; exact HQ.out, HQL.out, HOP8.out, HOW8.out, HB8.out⟩, by simp [intOf]; have := HLT.out; omega⟩
          · have hz1b : (z == 1) = false := by rw [beq_eq_false_iff_ne]; exact fun e => hgo (hgz.1 e)
            have HZB := Lib.hid hz1b
            have HT := Lib.hid (HWB.out hgo)
            clear hgz hz1b hgo HWA HWB HWC HWD
            go_upto_region 12 with fail
            refine' wp_region_conf 18 (.is _ :: .is _ :: .is _ :: .is _ :: .is _ :: .is _ :: .is _ :: .is _ :: .is _ :: .is _ :: .is _ :: .is _ :: .is _ :: .is _ :: .is undef :: .is undef :: .is undef :: .is _ :: []) (by kernel_rfl) (by kernel_rfl) (by kernel_rfl) (by kernel_rfl) rfl ?main
            case main =>
              iterate 2 (
                apply obs_step
                · rfl
                · intro w9 hE9 hk9
                  clear hk9 hE9
                  as_aux_lemma =>
                    go_wp2
                    refine post_eq ?_ (Below.refl _ _)
                    simp only [Act.put, List.setIfInBounds_toArray, List.set_cons_zero, List.set_cons_succ]
                    try rfl
                · simp only [Act.put, List.setIfInBounds_toArray, List.set_cons_zero, List.set_cons_succ]
                  rfl)
              iterate 1 (
                apply obs_step
                · rfl
                · intro w9 hE9 hk9
                  have d3 := (XC.out w9 hE9).cell 3
                  simp only [List.getElem?_toArray, List.getElem?_cons_zero, List.getElem?_cons_succ] at d3
                  clear hk9 hE9
                  as_aux_lemma =>
                    go_wp2
                    refine post_eq ?_ (Below.refl _ _)
                    simp only [Act.put, List.setIfInBounds_toArray, List.set_cons_zero, List.set_cons_succ]
                    try rfl
                · simp only [Act.put, List.setIfInBounds_toArray, List.set_cons_zero, List.set_cons_succ]
                  rfl)
              iterate 1 (
                apply obs_step
                · rfl
                · intro w9 hE9 hk9
                  clear hk9 hE9
                  as_aux_lemma =>
                    go_wp2
                    refine post_eq ?_ (Below.refl _ _)
                    simp only [Act.put, List.setIfInBounds_toArray, List.set_cons_zero, List.set_cons_succ]
                    try rfl
                · simp only [Act.put, List.setIfInBounds_toArray, List.set_cons_zero, List.set_cons_succ]
                  rfl)
              iterate 1 (
                apply obs_step
                · rfl
                · intro w9 hE9 hk9
                  have x2 := HPB.out
                  clear hk9 hE9
                  as_aux_lemma =>
                    go_wp2
                    refine post_eq ?_ (Below.refl _ _)
                    simp only [Act.put, List.setIfInBounds_toArray, List.set_cons_zero, List.set_cons_succ]
                    try rfl
                · simp only [Act.put, List.setIfInBounds_toArray, List.set_cons_zero, List.set_cons_succ]
                  rfl)
              iterate 1 (
                apply obs_step
                · rfl
                · intro w9 hE9 hk9
                  clear hk9 hE9
                  as_aux_lemma =>
                    go_wp2
                    refine post_eq ?_ (Below.refl _ _)
                    simp only [Act.put, List.setIfInBounds_toArray, List.set_cons_zero, List.set_cons_succ]
                    try rfl
                · simp only [Act.put, List.setIfInBounds_toArray, List.set_cons_zero, List.set_cons_succ]
                  rfl)
              iterate 1 (
                apply obs_step
                · rfl
                · intro w9 hE9 hk9
                  have AP9 := EM.out w9
                  clear hk9 hE9
                  as_aux_lemma =>
                    go_wp2_with fail
                    refine (AP9.mono ?_)
                    rintro e w10 ⟨rfl, hb10⟩
                    go_wp2
                    refine post_eq ?_ hb10
                    simp only [Act.put, List.setIfInBounds_toArray, List.set_cons_zero, List.set_cons_succ]
                    try rfl
                · simp only [Act.put, List.setIfInBounds_toArray, List.set_cons_zero, List.set_cons_succ]
                  rfl)
              iterate 1 (
                apply obs_step
                · rfl
                · intro w9 hE9 hk9
                  clear hk9 hE9
                  as_aux_lemma =>
                    go_wp2
                    refine post_eq ?_ (Below.refl _ _)
                    simp only [Act.put, List.setIfInBounds_toArray, List.set_cons_zero, List.set_cons_succ]
                    try rfl
                · simp only [Act.put, List.setIfInBounds_toArray, List.set_cons_zero, List.set_cons_succ]
                  rfl)
              iterate 1 (
                apply obs_step
                · rfl
                · intro w9 hE9 hk9
                  have N9 := XC.out w9 hE9
                  have d0 := N9.cell 0
                  have d1 := N9.cell 1
                  have d2 := N9.cell 2
                  have d3 := N9.cell 3
                  have d4 := N9.cell 4
                  have d5 := N9.cell 5
                  have d6 := N9.cell 6
                  have d7 := N9.cell 7
                  have d8 := N9.cell 8
                  have d9 := N9.cell 9
                  have d10 := N9.cell 10
                  have d11 := N9.cell 11
                  simp only [List.getElem?_toArray, List.getElem?_cons_zero, List.getElem?_cons_succ] at d0 d1 d2 d3 d4 d5 d6 d7 d8 d9 d10 d11
                  clear N9
                  clear hk9 hE9
                  as_aux_lemma =>
                    go_wp2
                    refine post_eq ?_ (Below.refl _ _)
                    simp only [Act.put, List.setIfInBounds_toArray, List.set_cons_zero, List.set_cons_succ]
                    try rfl
                · simp only [Act.put, List.setIfInBounds_toArray, List.set_cons_zero, List.set_cons_succ]
                  rfl)
              iterate 1 (
                apply obs_step
                · rfl
                · intro w9 hE9 hk9
                  have AP9 := AP.out w9 hE9
                  clear hk9 hE9
                  as_aux_lemma =>
                    go_wp2_with fail
                    refine (AP9.mono ?_)
                    rintro e w10 ⟨rfl, hb10⟩
                    go_wp2
                    refine post_eq ?_ hb10
                    simp only [Act.put, List.setIfInBounds_toArray, List.set_cons_zero, List.set_cons_succ]
                    try rfl
                · simp only [Act.put, List.setIfInBounds_toArray, List.set_cons_zero, List.set_cons_succ]
                  rfl)
              iterate 1 (
                apply obs_step
                · rfl
                · intro w9 hE9 hk9
                  have f1 := FD.out
                  clear hk9 hE9
                  as_aux_lemma =>
                    go_wp2
                    refine post_eq ?_ (Below.refl _ _)
                    simp only [Act.put, List.setIfInBounds_toArray, List.set_cons_zero, List.set_cons_succ]
                    try rfl
                · simp only [Act.put, List.setIfInBounds_toArray, List.set_cons_zero, List.set_cons_succ]
                  rfl)
              iterate 1 (
                apply obs_step
                · rfl
                · intro w9 hE9 hk9
                  have x3 := HZB.out
                  clear hk9 hE9
                  as_aux_lemma =>
                    go_wp2
                    refine post_eq ?_ (Below.refl _ _)
                    simp only [Act.put, List.setIfInBounds_toArray, List.set_cons_zero, List.set_cons_succ]
                    try rfl
                · simp only [Act.put, List.setIfInBounds_toArray, List.set_cons_zero, List.set_cons_succ]
                  rfl)
              iterate 2 (
                apply obs_step
                · rfl
                · intro w9 hE9 hk9
                  clear hk9 hE9
                  as_aux_lemma =>
                    go_wp2
                    refine post_eq ?_ (Below.refl _ _)
                    simp only [Act.put, List.setIfInBounds_toArray, List.set_cons_zero, List.set_cons_succ]
                    try rfl
                · simp only [Act.put, List.setIfInBounds_toArray, List.set_cons_zero, List.set_cons_succ]
                  rfl)
              iterate 3 (
                apply obs_skip
                · rfl
                · simp only [Act.put, List.setIfInBounds_toArray, List.set_cons_zero, List.set_cons_succ]
                  rfl)
              iterate 1 (
                apply obs_step
                · rfl
                · intro w9 hE9 hk9
                  clear hk9 hE9
                  as_aux_lemma =>
                    go_wp2
                    refine post_eq ?_ (Below.refl _ _)
                    simp only [Act.put, List.setIfInBounds_toArray, List.set_cons_zero, List.set_cons_succ]
                    try rfl
                · simp only [Act.put, List.setIfInBounds_toArray, List.set_cons_zero, List.set_cons_succ]
                  rfl)
              refine obs_end fun w8 hE9 _ => ?_
              have hB8 := HB3.out.drew.trans (hE9.mono HB3.out.size)
              have hE8 := (Below.refl wx.heap.size wx).drew.trans hE9
              have HO8 := Lib.hid (own_below HO3.out hE8)
              have HOP8 := Lib.hid (own_below HOP3.out hE8)
              have HOW8 := Lib.hid (own_below HOW3.out hE8)
              have HB8 := Lib.hid hB8
              clear hE9 hB8 XC HO3 HOP3 HOW3 HB3 EM AP FD
              clear hE8
              go_wp2
              exact ⟨⟨k + 1, q, by go_num, HLT.out, HO8.out, by omega, by rw [HT.out]; exact HQ.out, HQL.out, HOP8.out, HOW8.out, HB8.out⟩, by simp [intOf]; have := HLT.out; omega⟩
        · have XC : Hid (∀ W, Below wx.drew.heap.size wx.drew W → W.cell? ⟨y, 3, none⟩ = some (.int .i64 pg)) := fun W hW => by rw [HPG.out]; exact (N4.out.drew.keep hW N4.out.lt).cell 3
          have hb2 : (pg == (m : Int)) = false := by rw [beq_eq_false_iff_ne]; exact hp
          have HT := Lib.hid (HWA.out (by rw [← hpg]; exact hp))
          have HPB := Lib.hid hb2
          clear N3 hpg hp hb2 HWA HWB HWC HWD
          go_upto_region 12 with fail
          refine' wp_region_conf 18 (.is _ :: .is _ :: .is _ :: .is _ :: .is _ :: .is _ :: .is undef :: .is undef :: .is undef :: .is undef :: .is undef :: .is undef :: .is _ :: .is _ :: .is undef :: .is undef :: .is undef :: .is _ :: []) (by kernel_rfl) (by kernel_rfl) (by kernel_rfl) (by kernel_rfl) rfl ?main
          case main =>
            iterate 2 (
              apply obs_step
              · rfl
              · intro w9 hE9 hk9
                clear hk9 hE9
                as_aux_lemma =>
                  go_wp2
                  refine post_eq ?_ (Below.refl _ _)
                  simp only [Act.put, List.setIfInBounds_toArray, List.set_cons_zero, List.set_cons_succ]
                  try rfl
              · simp only [Act.put, List.setIfInBounds_toArray, List.set_cons_zero, List.set_cons_succ]
                rfl)
            iterate 1 (
              apply obs_step
              · rfl
              · intro w9 hE9 hk9
                have x1 := XC.out w9 hE9
                clear hk9 hE9
                as_aux_lemma =>
                  go_wp2
                  refine post_eq ?_ (Below.refl _ _)
                  simp only [Act.put, List.setIfInBounds_toArray, List.set_cons_zero, List.set_cons_succ]
                  try rfl
              · simp only [Act.put, List.setIfInBounds_toArray, List.set_cons_zero, List.set_cons_succ]
                rfl)
            iterate 1 (
              apply obs_step
              · rfl
              · intro w9 hE9 hk9
                clear hk9 hE9
                as_aux_lemma =>
                  go_wp2
                  refine post_eq ?_ (Below.refl _ _)
                  simp only [Act.put, List.setIfInBounds_toArray, List.set_cons_zero, List.set_cons_succ]
                  try rfl
              · simp only [Act.put, List.setIfInBounds_toArray, List.set_cons_zero, List.set_cons_succ]
                rfl)
            iterate 1 (
              apply obs_step
              · rfl
              · intro w9 hE9 hk9
                have x2 := HPB.out
                clear hk9 hE9
                as_aux_lemma =>
                  go_wp2
                  refine post_eq ?_ (Below.refl _ _)
                  simp only [Act.put, List.setIfInBounds_toArray, List.set_cons_zero, List.set_cons_succ]
                  try rfl
              · simp only [Act.put, List.setIfInBounds_toArray, List.set_cons_zero, List.set_cons_succ]
                rfl)
            iterate 1 (
              apply obs_step
              · rfl
              · intro w9 hE9 hk9
                clear hk9 hE9
                as_aux_lemma =>
                  go_wp2
                  refine post_eq ?_ (Below.refl _ _)
                  simp only [Act.put, List.setIfInBounds_toArray, List.set_cons_zero, List.set_cons_succ]
                  try rfl
              · simp only [Act.put, List.setIfInBounds_toArray, List.set_cons_zero, List.set_cons_succ]
                rfl)
            iterate 6 (
              apply obs_skip
              · rfl
              · simp only [Act.put, List.setIfInBounds_toArray, List.set_cons_zero, List.set_cons_succ]
                rfl)
            iterate 2 (
              apply obs_step
              · rfl
              · intro w9 hE9 hk9
                clear hk9 hE9
                as_aux_lemma =>
                  go_wp2
                  refine post_eq ?_ (Below.refl _ _)
                  simp only [Act.put, List.setIfInBounds_toArray, List.set_cons_zero, List.set_cons_succ]
                  try rfl
              · simp only [Act.put, List.setIfInBounds_toArray, List.set_cons_zero, List.set_cons_succ]
                rfl)
            iterate 3 (
              apply obs_skip
              · rfl
              · simp only [Act.put, List.setIfInBounds_toArray, List.set_cons_zero, List.set_cons_succ]
                rfl)
            iterate 1 (
              apply obs_step
              · rfl
              · intro w9 hE9 hk9
                clear hk9 hE9
                as_aux_lemma =>
                  go_wp2
                  refine post_eq ?_ (Below.refl _ _)
                  simp only [Act.put, List.setIfInBounds_toArray, List.set_cons_zero, List.set_cons_succ]
                  try rfl
              · simp only [Act.put, List.setIfInBounds_toArray, List.set_cons_zero, List.set_cons_succ]
                rfl)
            refine obs_end fun w8 hE9 _ => ?_
            have hB8 := HB3.out.drew.trans (hE9.mono HB3.out.size)
            have hE8 := (Below.refl wx.heap.size wx).drew.trans hE9
            have HO8 := Lib.hid (own_below HO3.out hE8)
            have HOP8 := Lib.hid (own_below HOP3.out hE8)
            have HOW8 := Lib.hid (own_below HOW3.out hE8)
            have HB8 := Lib.hid hB8
            clear hE9 hE8 hB8 XC HO3 HOP3 HOW3 HB3
            go_wp2
            exact ⟨⟨k + 1, q, by go_num, HLT.out, HO8.out, by omega, by rw [HT.out]; exact HQ.out, HQL.out, HOP8.out, HOW8.out, HB8.out⟩, by simp [intOf]; have := HLT.out; omega⟩
      · obtain rfl : k = L.length := by omega
        rw [List.take_length] at HQ
        have hql : q.length = (Hs.goes m L).length := by rw [← HQ.out, List.length_map]
        have HQL2 := Lib.hid hql
        obtain ⟨ra2, rc2, rfl⟩ := own_slice HOQ.out
        have hq1 : (q.length : Int) ≤ 200 := by omega
        have hz1 : ((q.length : Int) + 1 == 0) = false := by rw [beq_eq_false_iff_ne]; omega
        have hwl : IntKind.i64.wrap ((q.length : Int) + 1) = (q.length : Int) + 1 := by rw [IntKind.wrap_i64]; omega
        clear hlt hk hql
        go_upto_region 16 with fail
        obtain ⟨K, hK⟩ : ∃ K, K = kf14 L H m := ⟨_, rfl⟩
        have hKK : ((by_ : Nat) : Int) % ((q.length : Int) + 1) = (K : Int) := by
          rw [hK, HK.out, ← HQL2.out, Int.natCast_emod]
          rfl
        rw [hKK]
        have hKq : K ≤ q.length := by rw [hK, HQL2.out]; exact kf_le L H m
        have HKE := Lib.hid hK
        have hrc : q.length ≤ rc2 := by
          rcases own_any HOQ.out with ⟨e, _, _⟩ | ⟨g, cap, e, h1, _⟩
          · obtain ⟨_, e1, e2⟩ := Value.slice.inj e; omega
          · obtain ⟨_, _, e2⟩ := Value.slice.inj e; omega
        have UPT := Lib.hid (ents_upto (a := ra2) hrc K hKq)
        have HQI : Hid (∀ W, W.ownsRow w.heap.size 39 12 (.slice ra2 q.length rc2) q.length (qV q) → Below w.heap.size w W → IsEnts W (.slice ra2 q.length rc2) (Hs.goes m L)) := fun W h1 h2 => by
          have := qEnts h1 (fun x hx => (HQL.out x hx).keep h2)
          rwa [HQ.out] at this
        have HTI : Hid (∀ W, W.ownsRow w.heap.size 39 12 (.slice ra2 q.length rc2) q.length (qV q) → Below w.heap.size w W → IsEnts W (.slice ra2 K rc2) ((Hs.goes m L).take K)) := fun W h1 h2 => by
          have h3 := HQI.out W h1 h2
          rw [HQL2.out] at h3
          exact IsEnts.take h3 K (by rw [← HQL2.out]; exact hKq)
        have PW := Lib.hid (pw_succ L H m)
        have WW := Lib.hid (ww_succ L m)
        rw [← hK] at PW
        clear hz1 hwl hKK hrc hK
        by_cases hKlt : K < q.length
        · have hKI : (K : Int) < q.length := by omega
          obtain ⟨gq, cq, hgv, hgv1, hgv2⟩ := own_form HOQ.out (by omega)
          obtain ⟨rfl, hgv3, rfl⟩ := Value.slice.inj hgv
          clear hgv hgv1 hgv2 hgv3
          have hKg : K < (Hs.goes m L).length := by rw [← HQL2.out]; exact hKlt
          have hqa : q[K].at_ = ((Hs.goes m L)[K]).1 := by
            have h1 : (q.map Qx.ent)[K]? = (Hs.goes m L)[K]? := by rw [HQ.out]
            rw [List.getElem?_map, List.getElem?_eq_getElem hKlt, List.getElem?_eq_getElem hKg] at h1
            have h2 : q[K].ent = (Hs.goes m L)[K] := Option.some.inj h1
            rw [← h2]
            rfl
          have c0 : wr.cell? ⟨gq, K * 12, none⟩ = some (.int .i64 ((Hs.goes m L)[K]).1) := by
            have h1 := HOQ.out.cellAt (K * 12) (by omega)
            have h2 := qV_at q K hKlt 0 (by omega)
            rw [Nat.add_zero] at h2
            rw [h1, h2, ← hqa]
            rfl
          have HFR : Hid (Hs.fromL L (kf14 L H) (m + 1) = min (Hs.fromL L (kf14 L H) m) ((Hs.goes m L)[K]).1) := by
            have h1 : kf14 L H m < (Hs.goes m L).length := by rw [← HKE.out]; exact hKg
            have h2 := from_succ L H m h1
            have h3 : ((Hs.goes m L)[kf14 L H m]).1 = ((Hs.goes m L)[K]).1 := by congr 2; exact HKE.out.symm
            show _ = _
            rw [h2, h3]
          have hmi := min_run14 (Hs.fromL L (kf14 L H) m) ((Hs.goes m L)[K]).1
          clear hqa
          generalize ((Hs.goes m L)[K]).1 = ax at *
          generalize Hs.fromL L (kf14 L H) m = F at *
          clear hKlt
          go_upto_region 18 with fail
          clear c0 hmi hKg
          have hup := UPT.out
          go_wp2_with fail
          refine (refOne14_any (m : Int) (HTI.out _ HOQ.out HB.out)).mono ?_
          rintro e w5 ⟨rfl, hb⟩
          have hOQ5 := own_below HOQ.out hb
          have hOP5 := own_below HOP.out hb
          have hOW5 := own_below HOW.out hb
          have HB5 := Lib.hid (below2 HB.out hb)
          generalize Hs.oneL ((Hs.goes m L).take K) (m : Int) = P1 at *
          obtain ⟨a1, s1⟩ := P1
          clear hb hup
          have hs5 := HB5.out.size
          have hA5 : Below w5.heap.size w5 (w5.alloc (.cells #[.int .i64 a1, .string s1] 30)) := (Below.refl _ _).alloc (Nat.le_refl _) _
          have HOQ6 := Lib.hid (own_below hOQ5 hA5)
          have HOP6 := Lib.hid (own_below hOP5 hA5)
          have HOW6 := Lib.hid (own_below hOW5 hA5)
          have HA6 := Lib.hid (below2 HB5.out hA5)
          clear hA5 hOQ5 hOP5 hOW5 HOQ HOP HOW
          go_wp2_with (at_builtin; refine wpList_append_own_at _ rfl (.tmp 99) (.tmp 105) 23 rfl w.heap.size 30 j0 _ 2 24 Try.underlying23 hj0 hy0 hy1 hy2 rfl (by decide) _ _ _ rfl HOP6.out ⟨w5.heap.size, 0, none⟩ 1 1 [.int .i64 a1, .string s1] rfl rfl (World.news_of_block (Blk.new _ _ _)) (by simp [Value.oneCell']) (by simp only [maxLen]; omega) (by omega) (by first | omega | (simp; omega)) ?_; intro vp' w6 hown' hgrow _ hh4; obtain ⟨gp', cp', rfl, _, _⟩ := own_form hown' (by omega))
          have HB6 : Hid (Below w.heap.size w w6) := HA6.out.grown hgrow (by first | omega | (simp; omega)) fun j ej => (HOP6.out.lt j ej).1
          have HOW7 := Lib.hid (HOW6.out.kept hgrow (apart_or HAP.out))
          have HOQ7 := Lib.hid (HOQ6.out.kept hgrow (apart14 HOQ6.out HOP6.out (by decide)))
          have HAP7 := Lib.hid (apart_new HAP.out HOW6.out (Nat.le_refl _) hh4)
          have HOP7 : Hid (w6.ownsRow w.heap.size 30 2 (.slice (some ⟨gp', 0, none⟩) (m + 1) cp') (m + 1) (pgV (pw14 L H (m + 1)))) := by
            rw [PW.out, pgV_snoc]
            exact hown'
          clear hown' hgrow hh4 HA6 HOP6 HOW6 HOQ6 HAP HB HB5 hs5 PW
          go_wp2_with fail
          refine (refOne14_any (m : Int) (HQI.out _ HOQ7.out HB6.out)).mono ?_
          rintro e w7 ⟨rfl, hb⟩
          have hOP8 := own_below HOP7.out hb
          have hOW8 := own_below HOW7.out hb
          have HB8 := Lib.hid (below2 HB6.out hb)
          generalize Hs.oneL (Hs.goes m L) (m : Int) = P2 at *
          obtain ⟨a2, s2⟩ := P2
          clear hb
          have hs8 := HB8.out.size
          have hA8 : Below w7.heap.size w7 (w7.alloc (.cells #[.int .i64 a2, .string s2] 30)) := (Below.refl _ _).alloc (Nat.le_refl _) _
          have HOP9 := Lib.hid (own_below hOP8 hA8)
          have HOW9 := Lib.hid (own_below hOW8 hA8)
          have HA9 := Lib.hid (below2 HB8.out hA8)
          clear hA8 hOP8 hOW8 HOQ7 HOP7 HOW7 HB6 HQI HTI UPT
          go_wp2_with (at_builtin; refine wpList_append_own_at _ rfl (.tmp 107) (.tmp 111) 23 rfl w.heap.size 30 j0 _ 2 24 Try.underlying23 hj0 hy0 hy1 hy2 rfl (by decide) _ _ _ rfl HOW9.out ⟨w7.heap.size, 0, none⟩ 1 1 [.int .i64 a2, .string s2] rfl rfl (World.news_of_block (Blk.new _ _ _)) (by simp [Value.oneCell']) (by simp only [maxLen]; omega) (by omega) (by first | omega | (simp; omega)) ?_; intro vw' w8 hown' hgrow _ hh4; obtain ⟨gw', cw', rfl, _, _⟩ := own_form hown' (by omega))
          have HB9 : Hid (Below w.heap.size w w8) := HA9.out.grown hgrow (by first | omega | (simp; omega)) fun j ej => (HOW9.out.lt j ej).1
          have HOP10 := Lib.hid (HOP9.out.kept hgrow (apart_or (apart_sym HAP7.out)))
          have HAP10 := Lib.hid (apart_sym (apart_new (apart_sym HAP7.out) HOP9.out (Nat.le_refl _) hh4))
          have HOW10 : Hid (w8.ownsRow w.heap.size 30 2 (.slice (some ⟨gw', 0, none⟩) (m + 1) cw') (m + 1) (pgV (ww14 L (m + 1)))) := by
            rw [WW.out, pgV_snoc]
            exact hown'
          clear hown' hgrow hh4 HA9 HOP9 HOW9 HAP7 HB8 hs8 WW
          go_wp2
          exact ⟨⟨m + 1, by go_num, HLM.out, by rw [HFR.out], HOP10.out, HOW10.out, HAP10.out, HB9.out⟩, by simp [intOf]; have := HLM.out; omega⟩
        · have HFR := Lib.hid (from_same L H m (by rw [← HKE.out, ← HQL2.out]; exact hKlt))
          go_upto_region 18 with fail
          clear hKlt
          have hup := UPT.out
          go_wp2_with fail
          refine (refOne14_any (m : Int) (HTI.out _ HOQ.out HB.out)).mono ?_
          rintro e w5 ⟨rfl, hb⟩
          have hOQ5 := own_below HOQ.out hb
          have hOP5 := own_below HOP.out hb
          have hOW5 := own_below HOW.out hb
          have HB5 := Lib.hid (below2 HB.out hb)
          generalize Hs.oneL ((Hs.goes m L).take K) (m : Int) = P1 at *
          obtain ⟨a1, s1⟩ := P1
          clear hb hup
          have hs5 := HB5.out.size
          have hA5 : Below w5.heap.size w5 (w5.alloc (.cells #[.int .i64 a1, .string s1] 30)) := (Below.refl _ _).alloc (Nat.le_refl _) _
          have HOQ6 := Lib.hid (own_below hOQ5 hA5)
          have HOP6 := Lib.hid (own_below hOP5 hA5)
          have HOW6 := Lib.hid (own_below hOW5 hA5)
          have HA6 := Lib.hid (below2 HB5.out hA5)
          clear hA5 hOQ5 hOP5 hOW5 HOQ HOP HOW
          go_wp2_with (at_builtin; refine wpList_append_own_at _ rfl (.tmp 99) (.tmp 105) 23 rfl w.heap.size 30 j0 _ 2 24 Try.underlying23 hj0 hy0 hy1 hy2 rfl (by decide) _ _ _ rfl HOP6.out ⟨w5.heap.size, 0, none⟩ 1 1 [.int .i64 a1, .string s1] rfl rfl (World.news_of_block (Blk.new _ _ _)) (by simp [Value.oneCell']) (by simp only [maxLen]; omega) (by omega) (by first | omega | (simp; omega)) ?_; intro vp' w6 hown' hgrow _ hh4; obtain ⟨gp', cp', rfl, _, _⟩ := own_form hown' (by omega))
          have HB6 : Hid (Below w.heap.size w w6) := HA6.out.grown hgrow (by first | omega | (simp; omega)) fun j ej => (HOP6.out.lt j ej).1
          have HOW7 := Lib.hid (HOW6.out.kept hgrow (apart_or HAP.out))
          have HOQ7 := Lib.hid (HOQ6.out.kept hgrow (apart14 HOQ6.out HOP6.out (by decide)))
          have HAP7 := Lib.hid (apart_new HAP.out HOW6.out (Nat.le_refl _) hh4)
          have HOP7 : Hid (w6.ownsRow w.heap.size 30 2 (.slice (some ⟨gp', 0, none⟩) (m + 1) cp') (m + 1) (pgV (pw14 L H (m + 1)))) := by
            rw [PW.out, pgV_snoc]
            exact hown'
          clear hown' hgrow hh4 HA6 HOP6 HOW6 HOQ6 HAP HB HB5 hs5 PW
          go_wp2_with fail
          refine (refOne14_any (m : Int) (HQI.out _ HOQ7.out HB6.out)).mono ?_
          rintro e w7 ⟨rfl, hb⟩
          have hOP8 := own_below HOP7.out hb
          have hOW8 := own_below HOW7.out hb
          have HB8 := Lib.hid (below2 HB6.out hb)
          generalize Hs.oneL (Hs.goes m L) (m : Int) = P2 at *
          obtain ⟨a2, s2⟩ := P2
          clear hb
          have hs8 := HB8.out.size
          have hA8 : Below w7.heap.size w7 (w7.alloc (.cells #[.int .i64 a2, .string s2] 30)) := (Below.refl _ _).alloc (Nat.le_refl _) _
          have HOP9 := Lib.hid (own_below hOP8 hA8)
          have HOW9 := Lib.hid (own_below hOW8 hA8)
          have HA9 := Lib.hid (below2 HB8.out hA8)
          clear hA8 hOP8 hOW8 HOQ7 HOP7 HOW7 HB6 HQI HTI UPT
          go_wp2_with (at_builtin; refine wpList_append_own_at _ rfl (.tmp 107) (.tmp 111) 23 rfl w.heap.size 30 j0 _ 2 24 Try.underlying23 hj0 hy0 hy1 hy2 rfl (by decide) _ _ _ rfl HOW9.out ⟨w7.heap.size, 0, none⟩ 1 1 [.int .i64 a2, .string s2] rfl rfl (World.news_of_block (Blk.new _ _ _)) (by simp [Value.oneCell']) (by simp only [maxLen]; omega) (by omega) (by first | omega | (simp; omega)) ?_; intro vw' w8 hown' hgrow _ hh4; obtain ⟨gw', cw', rfl, _, _⟩ := own_form hown' (by omega))
          have HB9 : Hid (Below w.heap.size w w8) := HA9.out.grown hgrow (by first | omega | (simp; omega)) fun j ej => (HOW9.out.lt j ej).1
          have HOP10 := Lib.hid (HOP9.out.kept hgrow (apart_or (apart_sym HAP7.out)))
          have HAP10 := Lib.hid (apart_sym (apart_new (apart_sym HAP7.out) HOP9.out (Nat.le_refl _) hh4))
          have HOW10 : Hid (w8.ownsRow w.heap.size 30 2 (.slice (some ⟨gw', 0, none⟩) (m + 1) cw') (m + 1) (pgV (ww14 L (m + 1)))) := by
            rw [WW.out, pgV_snoc]
            exact hown'
          clear hown' hgrow hh4 HA9 HOP9 HOW9 HAP7 HB8 hs8 WW
          go_wp2
          exact ⟨⟨m + 1, by go_num, HLM.out, by rw [HFR.out], HOP10.out, HOW10.out, HAP10.out, HB9.out⟩, by simp [intOf]; have := HLM.out; omega⟩
   · obtain rfl : m = H.length := by omega
     obtain ⟨E, hE⟩ := mod300 early
     have hF := FG.out H.length
     have HWH := Lib.hid (WH.out H.length (Hs.fromL L (kf14 L H) H.length - (E : Int)) (by omega))
     have hsub : IntKind.i64.wrap (Hs.fromL L (kf14 L H) H.length - (E : Int)) = Hs.fromL L (kf14 L H) H.length - (E : Int) := by rw [IntKind.wrap_i64]; omega
     have hsub2 : wrap64 (Hs.fromL L (kf14 L H) H.length - (E : Int)) = Hs.fromL L (kf14 L H) H.length - (E : Int) := by unfold wrap64; omega
     obtain ⟨pa7, pc7, rfl⟩ := own_slice HOP.out
     have hip : IsPgs wr (.slice pa7 H.length pc7) (pw14 L H H.length) := .ofOwn (by rw [pw_len]; exact HOP.out)
     have hiw : IsPgs wr u8 (ww14 L H.length) := .ofOwn (by rw [ww_len]; exact HOW.out)
     have C := H1.out wr HB.out (Hs.fromL L (kf14 L H) H.length - (E : Int)) _ _ hip (by rw [pw_len]; omega) (pw_small L H H.length)
     rw [HWH.out, pw_len] at C
     have C := Lib.hid C
     have HIW := Lib.hid hiw
     clear hip hiw HOP HOW HAP hF
     generalize Hs.fromL L (kf14 L H) H.length = F at *
     go_wp2_with fail
     refine C.out.mono ?_
     rintro e w4 ⟨⟨g, rfl, hg, hG⟩, hb⟩
     have HB4 := Lib.hid (below2 HB.out hb)
     have C2 := Lib.hid (refSame14_any (IsPgs.ofBlk hG (ww_len L H.length) (by unfold maxLen; omega)) (HIW.out.keep hb) true (decide_eq_true rfl).symm)
     obtain ⟨uw, cw, e8⟩ := HIW.out.form
     rw [ww_len] at e8
     subst e8
     clear hb hG hg C
     go_wp2_with fail
     refine C2.out.mono ?_
     rintro e w5 ⟨rfl, hb⟩
     have HB5 := Lib.hid (below2 HB4.out hb)
     clear hb
     go_wp2
     go_ret
     exact ⟨rfl, HB5.out⟩
theorem redoWhole_few (v : Value) (L : List Ent) (vh : Value) (H : List UInt8) (early : Int) (w : World) (hv : IsEnts w v L) (hz : ∀ x ∈ L, Sized x.2) (hR : Reads w vh (H.map fun b => Value.int .u8 (b.toNat : Int))) (h_FW : ¬ FewL L) : Calls Try.prog 4 #[v, vh, .int .i64 early] w fun e w' => e = .returned (.bool true) ∧ Below w.heap.size w w' := by
  have AW := Lib.hid awake14
  have FW := Lib.hid (fun W (h : Below w.heap.size w W) => refFew (hv.keep h) hz false ⟨fun e => absurd e (by decide), fun h => absurd h h_FW⟩)
  obtain ⟨va, vc, rfl⟩ := IsEnts.form hv
  obtain ⟨ra, rc, rfl, _, _⟩ := hR
  rw [List.length_map]
  clear hv hz h_FW
  go_enter Try.func4, Try.ntmps4
  go_wp2_with fail
  refine (AW.out _).mono ?_
  rintro e w1 ⟨rfl, hb⟩
  have HB1 := Lib.hid hb
  clear hb
  go_wp2_with fail
  refine (FW.out _ HB1.out).mono ?_
  rintro e w2 ⟨rfl, hb⟩
  have HB2 := Lib.hid (below2 HB1.out hb)
  clear hb
  go_wp2_with fail
  refine (AW.out _).mono ?_
  rintro e w3 ⟨rfl, hb⟩
  have HB3 := Lib.hid (below2 HB2.out hb)
  clear hb
  go_wp2
  go_ret
  exact ⟨rfl, HB3.out⟩
theorem redoWhole_rises (v : Value) (L : List Ent) (vh : Value) (H : List UInt8) (early : Int) (w : World) (hv : IsEnts w v L) (hz : ∀ x ∈ L, Sized x.2) (hR : Reads w vh (H.map fun b => Value.int .u8 (b.toNat : Int))) (h_FW : FewL L) (h_RW : ¬ Ch.Rises L) : Calls Try.prog 4 #[v, vh, .int .i64 early] w fun e w' => e = .returned (.bool true) ∧ Below w.heap.size w w' := by
  have AW := Lib.hid awake14
  have FW := Lib.hid (fun W (h : Below w.heap.size w W) => refFew (hv.keep h) hz true ⟨fun _ => h_FW, fun _ => rfl⟩)
  have RW := Lib.hid (fun W (h : Below w.heap.size w W) => refRises (hv.keep h) false (decide_eq_false h_RW).symm)
  obtain ⟨va, vc, rfl⟩ := IsEnts.form hv
  obtain ⟨ra, rc, rfl, _, _⟩ := hR
  rw [List.length_map]
  clear hv hz h_FW h_RW
  go_enter Try.func4, Try.ntmps4
  go_wp2_with fail
  refine (AW.out _).mono ?_
  rintro e w1 ⟨rfl, hb⟩
  have HB1 := Lib.hid hb
  clear hb
  go_wp2_with fail
  refine (FW.out _ HB1.out).mono ?_
  rintro e w2 ⟨rfl, hb⟩
  have HB2 := Lib.hid (below2 HB1.out hb)
  clear hb
  go_wp2_with fail
  refine (RW.out _ HB2.out).mono ?_
  rintro e w3 ⟨rfl, hb⟩
  have HB3 := Lib.hid (below2 HB2.out hb)
  clear hb
  go_wp2_with fail
  refine (AW.out _).mono ?_
  rintro e w4 ⟨rfl, hb⟩
  have HB4 := Lib.hid (below2 HB3.out hb)
  clear hb
  go_wp2
  go_ret
  exact ⟨rfl, HB4.out⟩
theorem redoWhole_many (v : Value) (L : List Ent) (vh : Value) (H : List UInt8) (early : Int) (w : World) (hv : IsEnts w v L) (hz : ∀ x ∈ L, Sized x.2) (hR : Reads w vh (H.map fun b => Value.int .u8 (b.toNat : Int))) (h_FW : FewL L) (h_RW : Ch.Rises L) (hH : ¬ H.length ≤ 8) : Calls Try.prog 4 #[v, vh, .int .i64 early] w fun e w' => e = .returned (.bool true) ∧ Below w.heap.size w w' := by
  have AW := Lib.hid awake14
  have FW := Lib.hid (fun W (h : Below w.heap.size w W) => refFew (hv.keep h) hz true ⟨fun _ => h_FW, fun _ => rfl⟩)
  have RW := Lib.hid (fun W (h : Below w.heap.size w W) => refRises (hv.keep h) true (decide_eq_true h_RW).symm)
  obtain ⟨va, vc, rfl⟩ := IsEnts.form hv
  obtain ⟨ra, rc, rfl, _, _⟩ := hR
  rw [List.length_map]
  have hd8 : decide ((8 : Int) < H.length) = true := by rw [decide_eq_true_eq]; omega
  have hd8i : (8 : Int) < H.length := by omega
  clear hv hz h_FW h_RW
  go_enter Try.func4, Try.ntmps4
  go_wp2_with fail
  refine (AW.out _).mono ?_
  rintro e w1 ⟨rfl, hb⟩
  have HB1 := Lib.hid hb
  clear hb
  go_wp2_with fail
  refine (FW.out _ HB1.out).mono ?_
  rintro e w2 ⟨rfl, hb⟩
  have HB2 := Lib.hid (below2 HB1.out hb)
  clear hb
  go_wp2_with fail
  refine (RW.out _ HB2.out).mono ?_
  rintro e w3 ⟨rfl, hb⟩
  have HB3 := Lib.hid (below2 HB2.out hb)
  clear hb
  go_wp2_with fail
  refine (AW.out _).mono ?_
  rintro e w4 ⟨rfl, hb⟩
  have HB4 := Lib.hid (below2 HB3.out hb)
  clear hb
  go_wp2
  go_ret
  exact ⟨rfl, HB4.out⟩
theorem redoWhole_low (v : Value) (L : List Ent) (vh : Value) (H : List UInt8) (early : Int) (w : World) (hv : IsEnts w v L) (hz : ∀ x ∈ L, Sized x.2) (hR : Reads w vh (H.map fun b => Value.int .u8 (b.toNat : Int))) (h_FW : FewL L) (h_RW : Ch.Rises L) (hH : H.length ≤ 8) (hL : 0 < L.length) (hlow : L[0].1 < 1) : Calls Try.prog 4 #[v, vh, .int .i64 early] w fun e w' => e = .returned (.bool true) ∧ Below w.heap.size w w' := by
  have AW := Lib.hid awake14
  have FW := Lib.hid (fun W (h : Below w.heap.size w W) => refFew (hv.keep h) hz true ⟨fun _ => h_FW, fun _ => rfl⟩)
  have RW := Lib.hid (fun W (h : Below w.heap.size w W) => refRises (hv.keep h) true (decide_eq_true h_RW).symm)
  obtain ⟨va, vc, rfl, _, _, hx⟩ := hv
  obtain ⟨b, off, vt, vp, rfl, lt0, h00, hjunk, hjunk2⟩ := hx 0 hL
  clear hjunk hjunk2 hx
  have hd : decide ((0 : Int) < L.length) = true := by rw [decide_eq_true_eq]; omega
  have hdi : (0 : Int) < L.length := by omega
  generalize L[0].1 = z0 at *
  rw [Nat.zero_mul, Nat.add_zero] at h00
  have HC0 := Lib.hid h00
  have HLT0 := Lib.hid lt0
  clear h00 lt0
  obtain ⟨ra, rc, rfl, _, _⟩ := hR
  rw [List.length_map]
  have hd8 : decide ((8 : Int) < H.length) = false := by rw [decide_eq_false_iff_not]; omega
  have hd8i : ¬ (8 : Int) < H.length := by omega
  clear hz h_FW h_RW
  go_enter Try.func4, Try.ntmps4
  go_wp2_with fail
  refine (AW.out _).mono ?_
  rintro e w1 ⟨rfl, hb⟩
  have HB1 := Lib.hid hb
  clear hb
  go_wp2_with fail
  refine (FW.out _ HB1.out).mono ?_
  rintro e w2 ⟨rfl, hb⟩
  have HB2 := Lib.hid (below2 HB1.out hb)
  clear hb
  go_wp2_with fail
  refine (RW.out _ HB2.out).mono ?_
  rintro e w3 ⟨rfl, hb⟩
  have HB3 := Lib.hid (below2 HB2.out hb)
  have h00 : w3.cell? ⟨b, off, none⟩ = some (.int .i64 z0) := (HB3.out.cell (p := ⟨b, off, none⟩) HLT0.out).trans HC0.out
  clear hb RW
  go_wp2_with fail
  refine (AW.out _).mono ?_
  rintro e w4 ⟨rfl, hb⟩
  have HB4 := Lib.hid (below2 HB3.out hb)
  clear hb
  go_wp2
  go_ret
  exact ⟨rfl, HB4.out⟩
theorem walkRedoWhole (v : Value) (L : List Ent) (vh : Value) (H : List UInt8) (early : Int) (w : World) (hv : IsEnts w v L ∧ ∀ x ∈ L, Sized x.2) (hR : Reads w vh (H.map fun b => Value.int .u8 (b.toNat : Int))) (_ : H.length ≤ maxLen) (_ : (Lit.int .i64 early).wf = true) :
    Calls Try.prog 4 #[v, vh, .int .i64 early] w fun e w' => e = .returned (.bool true) ∧ Below w.heap.size w w' := by
  obtain ⟨hv, hz⟩ := hv
  by_cases h1 : FewL L
  · by_cases h2 : Ch.Rises L
    · by_cases h3 : H.length ≤ 8
      · by_cases h4 : 0 < L.length
        · by_cases h5 : L[0].1 < 1
          · exact redoWhole_low v L vh H early w hv hz hR h1 h2 h3 h4 h5
          · exact redoWhole_cons v L vh H early w hv hz hR h1 h2 h3 (rises_one h2 fun _ => by omega) h4
        · exact redoWhole_nil v L vh H early w hv hz hR h1 h2 h3 (rises_one h2 fun h => absurd h h4) (by omega)
      · exact redoWhole_many v L vh H early w hv hz hR h1 h2 h3
    · exact redoWhole_rises v L vh H early w hv hz hR h1 h2
  · exact redoWhole_few v L vh H early w hv hz hR h1
end
end Go.Proofs.Ytkodnjefdophmaa
