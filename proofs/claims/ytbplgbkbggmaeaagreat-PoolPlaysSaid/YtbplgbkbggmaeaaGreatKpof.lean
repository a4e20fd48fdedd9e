/- Texts that belong together, joined: PoQ, PoR, PoS. -/
import Derived.Test.YtbplgbkbggmaeaaGreatKpoe
import Derived.Test.YtbplgbkbggmaeaaGreatKbase
import Derived.Test.YtbplgbkbggmaeaaGreatKops
import Derived.Test.YtbplgbkbggmaeaaGreatKpgJ
import Derived.Test.YtbplgbkbggmaeaaGreatKwalb
namespace Go.Proofs.YtbplgbkbggmaeaaGreat
open Go.RowKit
def Sizes8 (p f g : Int) : Prop := (1 ≤ p ∧ p ≤ 8) ∧ (1 ≤ f ∧ f ≤ 8) ∧ (8 ≤ g ∧ g ≤ 64)
section
variable {w : World}
set_option maxRecDepth 100000 in
set_option maxHeartbeats 8000000 in
theorem made_bad (p f g : Int) (hz : ¬ Sizes8 p f g) :
   Calls Tryz.prog 4 #[.agg #[.int .i64 p, .int .i64 f, .int .i64 g]] w fun e w' => ∃ v0 v1 v2, e = .returned (.tuple #[v0, v1, v2, .pointer none, .int .i64 1]) ∧ Below w.heap.size w w' := by
 have X0 := Blk.new w 23 #[.int .i64 p, .int .i64 f, .int .i64 g]
 have hb0 := (Below.refl w.heap.size w).alloc (Nat.le_refl _) (.cells #[.int .i64 p, .int .i64 f, .int .i64 g] 23)
 go_enter Tryz.func4, Tryz.ntmps4
 go_wp2_with fail
 have HB0 := Lib.hid hb0
 have HX0 := Lib.hid X0
 clear hb0 X0
 generalize w.alloc (.cells #[.int .i64 p, .int .i64 f, .int .i64 g] 23) = w1 at *
 refine (new_ok 100 w1 (by omega) (by omega)).mono ?_
 rintro e w2 ⟨gd, FD, rfl, hd, hFD, hb2⟩
 have HD := Lib.hid hd
 have HB2 := Lib.hid (below2 HB0.out hb2)
 have x2 := HX0.out.keep hb2 HX0.out.lt
 have c20 := x2.cell 0
 simp at c20
 clear hd hFD hb2 HB0 HX0
 by_cases hp : 1 ≤ p ∧ p ≤ 8
 · obtain ⟨P, rfl⟩ := Int.eq_ofNat_of_zero_le (show 0 ≤ p by omega)
   have NS := Lib.hid (soNew_ok HD.out 0 P (by omega) (by omega) (by simp [Dk.new]; omega))
   go_wp2_with fail
   refine NS.out.mono ?_
   rintro e w3 ⟨s, rfl, hs, hge, hb3⟩
   have HS := Lib.hid hs
   have HB3 := Lib.hid (below2 HB2.out hb3)
   have x3 := x2.keep hb3 x2.lt
   have c32 := x3.cell 2
   simp at c32
   clear hs hge hb3 HB2 c20 HD NS
   by_cases hg : 8 ≤ g ∧ g ≤ 64
   · obtain ⟨G, rfl⟩ := Int.eq_ofNat_of_zero_le (show 0 ≤ g by omega)
     have hf : f < 1 ∨ 8 < f := by unfold Sizes8 at hz; omega
     have NL := Lib.hid (logNew_ok HS.out.disk 30 G (by omega) (by omega) (by simp [Dk.new]; omega))
     go_wp2_with fail
     refine NL.out.mono ?_
     rintro e w4 ⟨l, rfl, hl, hgl, hb4⟩
     have HB4 := Lib.hid (below2 HB3.out hb4)
     have x4 := x3.keep hb4 x3.lt
     have c41 := x4.cell 1
     simp at c41
     have NP := Lib.hid (fun W => poNew_frames s l f hf W)
     clear hl hb4 c32 HS NL hz hf hp hg
     go_wp2_with fail
     refine (NP.out _).mono ?_
     rintro e w5 ⟨rfl, rfl⟩
     go_wp2
     refine bodyPost_ret (results_tmp5 rfl _ _) rfl ?_
     exact ⟨_, _, _, rfl, HB4.out⟩
   · have NL := Lib.hid (fun W => logNew_bad (w := W) gd 30 g (by omega))
     clear hz hp hg
     go_wp2_with fail
     refine (NL.out _).mono ?_
     rintro e w4 ⟨rfl, rfl⟩
     go_wp2
     refine bodyPost_ret (results_tmp5 rfl _ _) rfl ?_
     exact ⟨_, _, _, rfl, HB3.out⟩
 · have NS := Lib.hid (fun W => soNew_pages 0 p gd W (by omega))
   clear hz hp
   go_wp2_with fail
   refine (NS.out _).mono ?_
   rintro e w3 ⟨rfl, rfl⟩
   go_wp2
   refine bodyPost_ret (results_tmp5 rfl _ _) rfl ?_
   exact ⟨_, _, _, rfl, HB2.out⟩
end
theorem Pool8.apart {w w' : World} {F : Foot} {A : A8} {Y : Y8} (h : Pool8 w F A Y) (hk : ∀ b, F b → w'.heap[b]? = w.heap[b]?) (hs : w.heap.size ≤ w'.heap.size) : Pool8 w' F A Y := by
 obtain ⟨FD, FL, h, rfl⟩ := h
 exact ⟨FD, FL, ⟨⟨h.sto.disk.keep (fun b hb => hk b (.inl (.inl hb))) hs, (hk _ (.inl (.inr rfl))).trans h.sto.head, h.sto.apart, h.sto.b5, h.sto.n8⟩, ⟨h.log.1, h.log.2.elim fun vb r => ⟨vb, r.keep (fun b hb => hk b (.inr (.inl hb))) hs⟩⟩, h.pool.keep fun b hb => hk b (.inr (.inr hb)), h.dl, h.ls, h.pd, h.ok⟩, rfl⟩
section
variable {base n : Nat} {Y : Y8}
theorem empty_len (h : Ok8 base n Y) {k : Nat} {f : Fr8} (hk : Y.l[k]? = some (some f)) : (Y.emptyY base k f).1.l.length = Y.l.length := by
 have := (h.empty hk).2.2.2.2
 rw [this]
 split <;> simp
theorem room_len (h : Ok8 base n Y) : (Y.roomY base).1.l.length = Y.l.length := by
 cases hf : free Y.l with
 | some k => rw [roomY_free hf]
 | none =>
   obtain ⟨f, hk⟩ := h.full hf
   rw [roomY_full hf hk]
   split
   · exact empty_len h hk
   · exact empty_len h hk
theorem fetch_len (h : Ok8 base n Y) (i : Nat) : (Y.fetchY base i).1.l.length = Y.l.length := by
 unfold Y8.fetchY
 split
 · split
   · exact room_len h
   · show ((Y.roomY base).1.l.set _ _).length = _
     rw [List.length_set]; exact room_len h
 · exact room_len h
theorem get_len (h : Ok8 base n Y) (i : Int) : (Y.getY base n i).1.l.length = Y.l.length := by
 unfold Y8.getY
 split
 · cases holds Y.l i with
   | some k => rfl
   | none =>
     simp only
     split
     · exact fetch_len h _
     · exact fetch_len h _
 · rfl
theorem evict_len (h : Ok8 base n Y) (k : Int) : (Y.evictY base k).1.l.length = Y.l.length := by
 unfold Y8.evictY
 split
 · rename_i hk
   have hx : Y.l[k.toNat]? = some Y.l[k.toNat] := List.getElem?_eq_getElem (by omega)
   simp only [List.getD_eq_getElem?_getD, hx, Option.getD_some]
   cases he : Y.l[k.toNat] with
   | none => rfl
   | some f => rw [he] at hx; exact empty_len h hx
 · rfl
end
end Go.Proofs.YtbplgbkbggmaeaaGreat

namespace Go.Proofs.YtbplgbkbggmaeaaGreat
open Go.RowKit
theorem Wl.app_rest (l : Wl) (r : Rc) : (l.app r).2.2.base = l.base ∧ (l.app r).2.2.size = l.size ∧ (l.app r).2.2.epoch = l.epoch := by
 by_cases hm : May r
 · rw [Wl.app_may hm]
   show (l.put r).base = _ ∧ (l.put r).size = _ ∧ (l.put r).epoch = _
   unfold Wl.put; split
   · exact ⟨rfl, rfl, rfl⟩
   · split <;> exact ⟨rfl, rfl, rfl⟩
 · rw [Wl.app_not hm]; exact ⟨rfl, rfl, rfl⟩
theorem Wl.Ok.app {l : Wl} (h : l.Ok) (r : Rc) : (l.app r).2.2.Ok := by
 by_cases hm : May r
 · rw [Wl.app_may hm]; exact h.put hm (lay_short hm)
 · rw [Wl.app_not hm]; exact h
section
variable {base n : Nat} {Y : Y8}
theorem Ok8.append (h : Ok8 base n Y) (r : Rc) : Ok8 base n { Y with lg := (Y.lg.app r).2.2 } :=
 have k := Wl.app_rest Y.lg r
 ⟨h.len1, h.len8, h.hand, h.uniq, h.fr, h.n1, h.n8, h.dk, h.lok.app r, (by show (Y.lg.app r).2.2.epoch < _; rw [k.2.2]; exact h.ep), h.room, (by show _ ≤ (Y.lg.app r).2.2.base; rw [k.1]; exact h.above), (by show (Y.lg.app r).2.2.base + (Y.lg.app r).2.2.size ≤ _; rw [k.1, k.2.1]; exact h.ring), h.alive⟩
end
theorem p8_append {w : World} {F : Foot} {A : A8} {Y : Y8} {v : Value} {r : Rc} (h : Pool8 w F A Y) (hv : IsRec w v r) (hf : Fit r) :
   Calls Tryz.prog 19 #[.pointer (some ⟨A.g, 0, none⟩), v] w (Out8 w F A { Y with lg := (Y.lg.app r).2.2 } (.tuple #[.int .i64 (Y.lg.app r).1, .int .i64 (Y.lg.app r).2.1])) := by
 obtain ⟨FD, FL, h, rfl⟩ := h
 refine (append_any h.log hv hf).mono ?_
 rintro e w' ⟨he, F', hl, hs⟩
 obtain ⟨k1, k2⟩ := h.sys.onLog hl hs
 obtain ⟨k3, k4⟩ := h.onLog k1 k2 (h.ok.append r)
 exact ⟨he, _, ⟨_, _, k3, rfl⟩, k4⟩
end Go.Proofs.YtbplgbkbggmaeaaGreat

namespace Go.Proofs.YtbplgbkbggmaeaaGreat
open Go.RowKit
section
variable {base n : Nat} {Y : Y8} {want : Nat → Pag}
end
namespace K8
variable {w1 w w' : World} {p f g zb wb : Nat} {A : A8} {F F' : Foot} {Y Y' : Y8} {q q' qa : Nat → Pag}
end K8
end Go.Proofs.YtbplgbkbggmaeaaGreat
