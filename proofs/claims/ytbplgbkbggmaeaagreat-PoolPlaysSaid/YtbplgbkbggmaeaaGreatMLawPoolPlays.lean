/- careenlaw08.PoolPlays: it returns true for every input, and leaves its arguments as they were: the row's proof, out of the walk.
   Conditions: none beside the row's own (each argument is read as data). -/
import Derived.Test.YtbplgbkbggmaeaaGreatKrpu
import Derived.Test.YtbplgbkbggmaeaaGreatKreg
import Derived.Deep.DeepCutAuto
import Derived.Deep.CutBlock
import Derived.Deep.RegionHeld3
import Derived.Test.YtbplgbkbggmaeaaGreatKx
import Derived.Test.YtbplgbkbggmaeaaGreatKops
import Derived.ProofKit
import Derived.OpenShut
import Derived.ShutString
import Derived.ChangeOld
import Derived.Below
import Derived.Lib.SmallJoins
namespace Go.Proofs.YtbplgbkbggmaeaaGreat
open Go.RowKit
theorem wp_page_neq_self {ops : Array Oper} {rest : List Oper} {o : Oper} {a : Act} {w : World} {Q : Exit → Act → World → Prop} (x y : Operand) (ty : TypeId) (ho : o.op = .binOp .neq 45 x y ty)
   (hw : Region.wanted o (yielded ops a.tmps) = true) (A : Int) (D : ByteArray) (hx : a.eval x = .agg #[.int .i64 A, .string D]) (hy : a.eval y = .agg #[.int .i64 A, .string D])
   (h : wpList Tryz.prog ops Q rest (a.put o.dst (.bool false)) w) : wpList Tryz.prog ops Q (o :: rest) a w :=
 wp_page_neq x y ty ho hw A A D D hx hy (by simpa using h)
attribute [go_sem] page_guard page_neq
theorem holds_or (Y : Y8) (n : Nat) (i : Int) : (holdsI Y.l i = -1 ∧ Y.peekY n i = Y.readY n i) ∨ ∃ (k : Nat) (fr : Fr8), holdsI Y.l i = (k : Int) ∧ Y.l[k]? = some (some fr) ∧ Y.peekY n i = (fr.pg, 0) := by
 unfold holdsI Y8.peekY
 cases hh : holds Y.l i with
 | none => exact .inl ⟨rfl, rfl⟩
 | some k =>
   obtain ⟨fr, hf, -⟩ := holds_some hh
   exact .inr ⟨k, fr, rfl, hf, by simp only [pageAt_some hf]⟩
theorem Duo.row {w0 w : World} {F : Foot} {A : A8} {G : Foot} {B : A9} {Y Z : Y8} (h : Duo w0 w F A G B Y Z) {x : Nat} (hF : ¬ F x) (hG : ¬ G x) (hn : w0.heap.size ≤ x) (cs : Array Value) : Duo w0 (w.setRow x cs) F A G B Y Z :=
 ⟨h.a.apart (fun b hb => setRow_other w x b cs fun e => hF (e ▸ hb)) (by simp [World.setRow]), h.b.apart (fun b hb => setRow_other w x b cs fun e => hG (e ▸ hb)) (by simp [World.setRow]), h.ap, h.nf, h.ng, below_setRow h.below hn cs, h.n, h.base⟩
section
variable {w0 w : World} {F : Foot} {A : A8} {G : Foot} {B : A9} {Y : Y8}
theorem framesAs (h : Duo w0 w F A G B Y Y) {f : Nat} (hl : Y.l.length = f) : Calls Tryz.prog 28 #[.pointer (some ⟨A.q, 0, none⟩)] w fun e w' => e = .returned (.int .i64 f) ∧ w = w' := by
 subst hl
 exact poFrames_any h.a
theorem deadAs (h : Duo w0 w F A G B Y Y) {g : Bool} (hl : Y.D.gone = g) : Calls Tryz.prog 26 #[.pointer (some ⟨A.gd, 0, none⟩)] w fun e w' => e = .returned (.bool g) ∧ w = w' := by
 subst hl
 exact h.dead
theorem waitingAs (h : Duo w0 w F A G B Y Y) {n : Nat} (hl : Y.D.waits.length = n) : Calls Tryz.prog 27 #[.pointer (some ⟨A.gd, 0, none⟩)] w fun e w' => e = .returned (.int .i64 n) ∧ w = w' := by
 subst hl
 exact h.waiting
end
set_option maxRecDepth 100000 in
set_option maxHeartbeats 64000000 in
theorem plays_go (p f g : Nat) (p1 : 1 ≤ p) (p8 : p ≤ 8) (f1 : 1 ≤ f) (f8 : f ≤ 8) (g8 : 8 ≤ g) (g64 : g ≤ 64) (v : Value) (ops : List Op8) (w : World) (hv : IsOps8 w v ops) (hl : ¬ isLong8 ops) :
   Calls Tryz.prog 3 #[.agg #[.int .i64 p, .int .i64 f, .int .i64 g], v] w fun e w' => e = .returned (.bool true) ∧ Below w.heap.size w w' := by
 have X0 := Blk.new w 23 #[.int .i64 p, .int .i64 f, .int .i64 g]
 have hb0 := (Below.refl w.heap.size w).alloc (Nat.le_refl _) (.cells #[.int .i64 p, .int .i64 f, .int .i64 g] 23)
 have MK := Lib.hid (fun W => made_ok (w := W) p f g p1 p8 f1 f8 g8 g64)
 have PB := Lib.hid (And.intro p1 (And.intro p8 (And.intro f1 (And.intro f8 (And.intro g8 g64)))))
 have HL : Hid (ops.length ≤ 200) := by unfold isLong8 at hl; have := fun h => hl (.inr h); exact Nat.le_of_not_lt this
 have HFIT : Hid (∀ o ∈ ops, Fit o.r) := by
   unfold isLong8 at hl
   intro o ho
   exact Classical.byContradiction fun h => hl (.inl ⟨o, ho, .inr h⟩)
 have hLN := hl
 have hpI : (1 : Int) ≤ p ∧ (p : Int) ≤ 8 := by omega
 have hfI : (1 : Int) ≤ f ∧ (f : Int) ≤ 8 := by omega
 clear p1 p8 f1 f8 g8 g64 hl
 obtain ⟨hp1, hp2⟩ := hpI
 obtain ⟨hf1, hf2⟩ := hfI
 go_enter Tryz.func3, Tryz.ntmps3
 go_upto_region 1 with fail
 change Code.wp _ _ _ _ (w.alloc (.cells #[.int .i64 p, .int .i64 f, .int .i64 g] 23))
 have HB0 := Lib.hid hb0
 have HV0 := Lib.hid (hv.keep hb0)
 clear hb0 hv
 generalize w.alloc (.cells #[.int .i64 p, .int .i64 f, .int .i64 g] 23) = w1 at *
 have HB1 : Hid (∀ w', Below w1.heap.size w1 w' → Below w.heap.size w w') := Lib.hid fun w' h => HB0.out.trans (h.mono HB0.out.size)
 generalize hzb : w.heap.size = zb at *
 have HZB := Lib.hid hzb
 clear hzb
 go_wp2_with (refine wpList_load_row rfl 23 _ rfl zb rfl 23 _ (0, 0) _ X0 Tryz.underlying23 rfl (by kernel_rfl) ?_)
 refine (MK.out _).mono ?_
 rintro e w2 ⟨F, A, rfl, hlv, hn, hb⟩
 have L2 := Lib.hid hlv
 have HN := Lib.hid (And.intro hn hb)
 have X2 := X0.keep hlv.below X0.lt
 have XZ0 : Hid (∀ W, Below w1.heap.size w1 W → Blk W zb 23 #[.int .i64 p, .int .i64 f, .int .i64 g]) := Lib.hid fun W hW => X0.keep hW X0.lt
 have HZ1 := Lib.hid X0.lt
 have HFS : Hid (∀ b, F b → b < w2.heap.size) := hlv.pool.lt
 have HS2 : Hid (w1.heap.size ≤ w2.heap.size) := hlv.below.size
 clear hlv hn hb MK X0
 go_wp2_with fail
 refine (refNew_any 100 _ (by omega)).mono ?_
 rintro e w3 ⟨gd, FD, rfl, hrd, hFD, hb3⟩
 have hRW := hrd.lt
 have X3 := X2.keep hb3 X2.lt
 have z30 : w3.cell? ⟨zb, 0, none⟩ = some (.int .i64 p) := X3.cell 0
 have L3 := Lib.hid (L2.out.more hb3)
 have HS3 := Lib.hid hb3.size
 have HFD := Lib.hid (fun b (hb : FD b) => And.intro (hFD b hb) (hRW b hb))
 have NS := Lib.hid (rpNew_ok hrd (Dk.Ok.new (by omega) (by omega)) p PB.out.1 PB.out.2.1 (by simp [Dk.new]; omega))
 clear hrd hFD hb3 hRW X2 L2
 go_wp2_with fail
 refine NS.out.mono ?_
 rintro e w4 ⟨rfl, hs4, hb4⟩
 have S4 := Lib.hid hs4
 have X4 := X3.keep hb4 X3.lt
 have L4 := Lib.hid (L3.out.more hb4)
 have HSL : Hid (w3.heap.size < w4.heap.size) := hs4.head.lt
 clear hs4 hb4 X3 L3 z30 NS
 generalize w3.heap.size = s at *
 go_wp2_with fail
 refine (awake8 _).mono ?_
 rintro e w5 ⟨rfl, hb5⟩
 have S5 := Lib.hid (S4.out.below hb5)
 have L5 := Lib.hid (L4.out.more hb5)
 have HV5 := Lib.hid (HV0.out.keep L5.out.below)
 have X5 := X4.keep hb5 X4.lt
 have HS5 := Lib.hid hb5.size
 clear hb5 S4 L4 X4
 have LG := Lib.hid (long8_any v ops w5 HV5.out false (by simp [hLN]))
 clear hLN
 go_wp2_with fail
 refine LG.out.mono ?_
 rintro e w6 ⟨rfl, hb6⟩
 have S6 := Lib.hid (S5.out.below hb6)
 have L6 := Lib.hid (L5.out.more hb6)
 have X6 := X5.keep hb6 X5.lt
 have HS6 := Lib.hid hb6.size
 have z62 : w6.cell? ⟨zb, 2, none⟩ = some (.int .i64 g) := X6.cell 2
 have NL := Lib.hid (rlNew_ok S6.out.disk S6.out.ok 30 g PB.out.2.2.2.2.1 PB.out.2.2.2.2.2 (by simp [Dk.new]; have := PB.out.2.2.2.2.2; omega))
 clear hb6 S5 L5 X5 HV5 LG
 go_wp2_with fail
 refine NL.out.mono ?_
 rintro e w7 ⟨gl, rfl, hl7, hge7, hb7⟩
 have S7 := Lib.hid (S6.out.below hb7)
 have L7 := Lib.hid (L6.out.more hb7)
 have R7 := Lib.hid hl7
 have X7 := X6.keep hb7 X6.lt
 have HGL := Lib.hid hge7
 have z71 : w7.cell? ⟨zb, 1, none⟩ = some (.int .i64 f) := X7.cell 1
 have NP := Lib.hid (rqNew_ok (w := w7) s gl f PB.out.2.2.1 PB.out.2.2.2.1)
 clear hl7 hge7 hb7 S6 L6 X6 z62 NL
 go_wp2_with fail
 refine NP.out.mono ?_
 rintro e w8 ⟨q, gf, cap, rfl, hq8, hqq, hgf, hb8⟩
 have hduo := duo_start (s0 := w2.heap.size) (s1 := w6.heap.size) (s2 := w7.heap.size) PB.out.1 PB.out.2.1 PB.out.2.2.1 PB.out.2.2.2.1 PB.out.2.2.2.2.1 PB.out.2.2.2.2.2 (L7.out.more hb8) HN.out.1 HN.out.2 HFS.out HS2.out
   (S7.out.below hb8) (fun b hb => HFD.out b hb) HS3.out (by have := HSL.out; have := HS5.out; have := HS6.out; omega) (R7.out.below hb8) (fun b hb => ⟨by rcases hb with rfl | rfl; exact Nat.le_refl _; exact HGL.out, R7.out.lt b hb⟩) hq8 hqq hgf (by have := R7.out.lt gl (.inr rfl); have := HGL.out; omega)
 obtain ⟨G, B, hduo, hBq, hBs, hBg, hBd⟩ := hduo
 have T8 := Lib.hid hduo
 subst hBq hBs hBg hBd
 clear hduo hq8 hqq hgf hb8 X7 z71 L7 S7 R7 HGL HS2 HS3 HS5 HS6 HSL HFD HFS NP
 obtain ⟨va, vcap, rfl, hv1, hv2, _⟩ := id HV0.out
 have hlm : (ops.length : Int) ≤ 200 := by have := HL.out; omega
 clear hv1 hv2
 go_wp2_with fail
 go_loopw [115] (fun vj wr => ∃ (j : Nat) (F : Foot) (G : Foot) (Y : Y8), vj = .int .i64 j ∧ j ≤ ops.length ∧ Y.t ≤ 1 + j ∧ Y.l.length = f ∧ Duo w1 wr F A G B Y Y) (fun vj _ => ops.length - (intOf vj).toNat)
 case atStart => exact ⟨0, F, G, _, rfl, Nat.zero_le _, by simp [Y8.new], by simp [Y8.new], T8.out⟩
 case round =>
   obtain ⟨j, F, G, Y, rfl, hjl, htj, hlen, htt⟩ := hrel
   have T0 := Lib.hid htt
   have HT := Lib.hid htj
   have HLEN := Lib.hid hlen
   clear htt htj hlen T8
   by_cases hlt : j < ops.length
   · obtain ⟨ob, off, cap', hva, _, _, hbw, hel⟩ := HV0.out.at_ (by omega)
     cases hva
     obtain ⟨ta, tc, pa, pc, hls0, hwf, hc⟩ := hel j hlt
     have HLS := Lib.hid hls0
     have HWF := Lib.hid hwf
     have HFO := Lib.hid (HFIT.out _ (List.getElem_mem hlt))
     obtain ⟨c0, c1, c2, c3, c4, c5, c6, c7, c8, c9, c10, c11, c12, c13, c14, c15⟩ := hc.keep T0.out.below
     clear hel hc hwf hls0
     generalize ops[j] = o at *
     have hn := Blk.new wr 51 op8Zero
     have N5 := hn.setRow (op8Cells o (.slice ta o.r.txns.length tc) (.slice pa o.r.pages.length pc))
     have hb3 : Below wr.heap.size wr ((wr.alloc (.cells op8Zero 51)).setRow wr.heap.size (op8Cells o (.slice ta o.r.txns.length tc) (.slice pa o.r.pages.length pc))) := below_setRow ((Below.refl _ _).alloc (Nat.le_refl _) _) (Nat.le_refl _) _
     have T5 := Lib.hid (T0.out.more hb3)
     have HXF : Hid (¬ F wr.heap.size) := fun e => by have := T0.out.a.lt _ e; omega
     have HXG : Hid (¬ G wr.heap.size) := fun e => by have := T0.out.b.lt _ e; omega
     have HXN : Hid (w1.heap.size ≤ wr.heap.size) := T0.out.below.size
     go_upto_region 13 with (refine wpList_store_row rfl 51 _ _ rfl wr.heap.size _ rfl rfl 51 _ hn (by kernel_rfl) rfl (by simp [Value.oneCell']) ?_)
     clear hn hb3 c0 c1 c2 c3 c4 c5 c6 c7 c8 c9 c10 c11 c12 c13 c14 c15 hbw T0
     change Code.wp _ _ _ _ ((wr.alloc (.cells op8Zero 51)).setRow wr.heap.size (op8Cells o (.slice ta o.r.txns.length tc) (.slice pa o.r.pages.length pc)))
     generalize (wr.alloc (.cells op8Zero 51)).setRow wr.heap.size (op8Cells o (.slice ta o.r.txns.length tc) (.slice pa o.r.pages.length pc)) = w5 at *
     generalize wr.heap.size = x at *
     have d0 : w5.cell? ⟨x, 0, none⟩ = some (.int .i64 o.kind) := N5.cell 0
     go_upto_block 2 with fail
     go_cut [18, 19, 20, 21, 22, 23, 24, 25, 26, 27, 28, 29, 115] from 115 to 357 (fun _ _ _ _ _ _ _ _ _ _ _ _ s115 wx => s115 = .int .i64 j ∧ ∃ (F : Foot) (G : Foot) (Y : Y8), Y.t ≤ 1 + (j + 1) ∧ Y.l.length = f ∧ Duo w1 wx F A G B Y Y)
     case first =>
       by_cases k1 : o.kind = 1
       · as_aux_lemma =>
           have e1 : (o.kind == 1) = true := by simp [k1]
           have d1 : w5.cell? ⟨x, 1, none⟩ = some (.int .i64 o.i) := N5.cell 1
           have ga := T5.out.getA o.i (by have := HT.out; have := HL.out; omega)
           unfold pgOut at ga
           have GA := Lib.hid ga
           clear k1 ga
           go_wp2_with fail
           refine GA.out.mono ?_
           rintro e w6 ⟨rfl, F6, t6, hs6⟩
           have d6 : w6.cell? ⟨x, 1, none⟩ = some (.int .i64 o.i) := (World.cell?_of_block (a := ⟨x, 1, none⟩) (hs6.block x N5.lt HXF.out)).trans d1
           have hgt := (T5.out.okA.get o.i).2.2
           have hgl := get_len T5.out.okA o.i
           clear d1 GA
           generalize hga : Y.getY A.base A.n o.i = R at *
           obtain ⟨Y6, pg, er⟩ := R
           simp only at hgt hgl t6 ⊢
           have X6 := Blk.new w6 45 #[.int .i64 pg.1, .string pg.2]
           have hb6 : Below w6.heap.size w6 (w6.alloc (.cells #[.int .i64 pg.1, .string pg.2] 45)) := (Below.refl _ _).alloc (Nat.le_refl _) _
           have t7 := t6.more hb6
           have d7 : (w6.alloc (.cells #[.int .i64 pg.1, .string pg.2] 45)).cell? ⟨x, 1, none⟩ = some (.int .i64 o.i) := by
             rw [World.cell?_alloc_past _ _ _ (by have := World.block_lt_of_cell? w6 ⟨x, 1, none⟩ d6; exact this)]
             exact d6
           have GB := t7.getB o.i (by have := HT.out; have := HL.out; omega)
           rw [hga] at GB
           unfold pgOut at GB
           have HGB := Lib.hid GB
           have HXG6 : Hid (¬ G w6.heap.size) := fun e => by have := t6.b.lt _ e; omega
           have X7 := Lib.hid X6
           clear GB hb6 t6 hs6 d6 hga t7 X6
           go_upto_region 18 with fail
           generalize w6.alloc (.cells #[.int .i64 pg.1, .string pg.2] 45) = w7 at *
           generalize w6.heap.size = y1 at *
           go_wp2_with fail
           refine HGB.out.mono ?_
           rintro e w8 ⟨rfl, G8, t8, hs8⟩
           have X8 := (hs8.block y1 X7.out.lt HXG6.out).trans X7.out
           have hb8 : Below w8.heap.size w8 (w8.alloc (.cells #[.int .i64 pg.1, .string pg.2] 45)) := (Below.refl _ _).alloc (Nat.le_refl _) _
           have X9 : Blk (w8.alloc (.cells #[.int .i64 pg.1, .string pg.2] 45)) y1 45 #[.int .i64 pg.1, .string pg.2] := Blk.alloc X8 _
           have Z9 := Blk.new w8 45 #[.int .i64 pg.1, .string pg.2]
           have T9 := Lib.hid (t8.more hb8)
           clear hb8 t8 hs8 X8 X7 HGB d7 HXG6
           go_upto_region 19 with fail
           generalize w8.alloc (.cells #[.int .i64 pg.1, .string pg.2] 45) = w9 at *
           generalize w8.heap.size = y2 at *
           go_wp2_with (first
             | (refine wpList_load_row rfl 45 _ rfl y1 rfl 45 _ (0, 0) _ X9 Tryz.underlying45 rfl (by kernel_rfl) ?_)
             | (refine wpList_load_row rfl 45 _ rfl y2 rfl 45 _ (0, 0) _ Z9 Tryz.underlying45 rfl (by kernel_rfl) ?_)
             | (refine wp_page_neq_self _ _ _ rfl rfl pg.1 pg.2 rfl rfl ?_))
           go_meet
           exact ⟨rfl, F6, G8, Y6, by have := HT.out; omega, by rw [hgl]; exact HLEN.out, T9.out⟩
       have e1 : (o.kind == 1) = false := by simp [k1]
       clear k1
       by_cases k2 : o.kind = 2
       · as_aux_lemma =>
           have ek : (o.kind == 2) = true := by simp [k2]
           clear k2
           go_upto_region 22 with fail
           have td := T5.out.more (Below.refl _ _).drew
           have b1 : w5.cell? ⟨x, 1, none⟩ = some (.int .i64 o.i) := N5.cell 1
           have b3 : w5.cell? ⟨x, 3, none⟩ = some (.int .i64 o.p.1) := N5.cell 3
           have b4 : w5.cell? ⟨x, 4, none⟩ = some (.string o.p.2) := N5.cell 4
           have hT := HT.out
           have hL := HL.out
           have htl : Y.t < 4294967295 := by omega
           have htl2 : Y.t < 4294967296 := by omega
           clear hT hL
           go_region_held3 (fun W => W.cell? ⟨x, 1, none⟩ = some (.int .i64 o.i) ∧ W.cell? ⟨x, 3, none⟩ = some (.int .i64 o.p.1) ∧ W.cell? ⟨x, 4, none⟩ = some (.string o.p.2)) (first | exact ⟨b1, b3, b4⟩ | exact ⟨c1, c3, c4⟩ | exact ⟨dd1, dd3, dd4⟩) (first
             | (go_at_call 13; refine (td.putA o.i o.p).mono ?_; rintro e w8 ⟨rfl, F8, T8, hs8⟩; have n8 : Blk w8 x 51 (op8Cells o (.slice ta o.r.txns.length tc) (.slice pa o.r.pages.length pc)) := (hs8.block x N5.lt HXF.out).trans N5; have c1 : w8.cell? ⟨x, 1, none⟩ = some (.int .i64 o.i) := Blk.cell n8 1; have c3 : w8.cell? ⟨x, 3, none⟩ = some (.int .i64 o.p.1) := Blk.cell n8 3; have c4 : w8.cell? ⟨x, 4, none⟩ = some (.string o.p.2) := Blk.cell n8 4)
             | (go_at_call 14; refine (T8.putB o.i o.p).mono ?_; rintro e w9 ⟨rfl, G9, T9, hs9⟩; have n9 : Blk w9 x 51 (op8Cells o (.slice ta o.r.txns.length tc) (.slice pa o.r.pages.length pc)) := (hs9.block x n8.lt HXG.out).trans n8; have dd1 : w9.cell? ⟨x, 1, none⟩ = some (.int .i64 o.i) := Blk.cell n9 1; have dd3 : w9.cell? ⟨x, 3, none⟩ = some (.int .i64 o.p.1) := Blk.cell n9 3; have dd4 : w9.cell? ⟨x, 4, none⟩ = some (.string o.p.2) := Blk.cell n9 4))
           have HT9 := Lib.hid T9
           have HTB : Hid ((Y.putY o.i o.p).1.t ≤ 1 + (j + 1)) := by have := HT.out; have := (put_len (Y := Y) o.i o.p).2; unfold Hid; omega
           have HLB : Hid ((Y.putY o.i o.p).1.l.length = f) := by have := HLEN.out; have := (put_len (Y := Y) o.i o.p).1; unfold Hid; omega
           clear td T8 T9 hs8 hs9 n8 n9 b1 c1 dd1 b3 c3 dd3 b4 c4 dd4
           go_wp2_with fail
           go_meet
           exact ⟨rfl, F8, G9, _, HTB.out, HLB.out, HT9.out⟩
       have e2 : (o.kind == 2) = false := by simp [k2]
       clear k2
       by_cases k3 : o.kind = 3
       · as_aux_lemma =>
           have ek : (o.kind == 3) = true := by simp [k3]
           clear k3
           go_upto_region 25 with fail
           have td := T5.out.more (Below.refl _ _).drew
           have b2 : w5.cell? ⟨x, 2, none⟩ = some (.int .i64 o.n) := N5.cell 2
           have hT := HT.out
           have hL := HL.out
           have htl : Y.t < 4294967295 := by omega
           have htl2 : Y.t < 4294967296 := by omega
           clear hT hL
           go_region_held3 (fun W => W.cell? ⟨x, 2, none⟩ = some (.int .i64 o.n)) (first | exact b2 | exact c2 | exact dd2) (first
             | (go_at_call 15; refine (td.evictA o.n htl2).mono ?_; rintro e w8 ⟨rfl, F8, T8, hs8⟩; have n8 : Blk w8 x 51 (op8Cells o (.slice ta o.r.txns.length tc) (.slice pa o.r.pages.length pc)) := (hs8.block x N5.lt HXF.out).trans N5; have c2 : w8.cell? ⟨x, 2, none⟩ = some (.int .i64 o.n) := Blk.cell n8 2)
             | (go_at_call 16; refine (T8.evictB o.n htl2).mono ?_; rintro e w9 ⟨rfl, G9, T9, hs9⟩; have n9 : Blk w9 x 51 (op8Cells o (.slice ta o.r.txns.length tc) (.slice pa o.r.pages.length pc)) := (hs9.block x n8.lt HXG.out).trans n8; have dd2 : w9.cell? ⟨x, 2, none⟩ = some (.int .i64 o.n) := Blk.cell n9 2))
           have HT9 := Lib.hid T9
           have HTB : Hid ((Y.evictY A.base o.n).1.t ≤ 1 + (j + 1)) := by have := HT.out; have := (T5.out.okA.evict o.n).2; unfold Hid; omega
           have HLB : Hid ((Y.evictY A.base o.n).1.l.length = f) := by have := HLEN.out; have := evict_len T5.out.okA o.n; unfold Hid; omega
           clear td T8 T9 hs8 hs9 n8 n9 b2 c2 dd2
           go_wp2_with fail
           go_meet
           exact ⟨rfl, F8, G9, _, HTB.out, HLB.out, HT9.out⟩
       have e3 : (o.kind == 3) = false := by simp [k3]
       clear k3
       by_cases k4 : o.kind = 4
       · as_aux_lemma =>
           have ek : (o.kind == 4) = true := by simp [k4]
           clear k4
           go_upto_region 28 with fail
           have td := T5.out.more (Below.refl _ _).drew
           have b1 : w5.cell? ⟨x, 1, none⟩ = some (.int .i64 o.i) := N5.cell 1
           have hT := HT.out
           have hL := HL.out
           have htl : Y.t < 4294967295 := by omega
           have htl2 : Y.t < 4294967296 := by omega
           clear hT hL
           go_region_held3 (fun W => W.cell? ⟨x, 1, none⟩ = some (.int .i64 o.i)) (first | exact b1 | exact c1 | exact dd1) (first
             | (go_at_call 17; refine (td.dropA o.i).mono ?_; rintro e w8 ⟨rfl, F8, T8, hs8⟩; have n8 : Blk w8 x 51 (op8Cells o (.slice ta o.r.txns.length tc) (.slice pa o.r.pages.length pc)) := (hs8.block x N5.lt HXF.out).trans N5; have c1 : w8.cell? ⟨x, 1, none⟩ = some (.int .i64 o.i) := Blk.cell n8 1)
             | (go_at_call 18; refine (T8.dropB o.i).mono ?_; rintro e w9 ⟨rfl, G9, T9, hs9⟩; have n9 : Blk w9 x 51 (op8Cells o (.slice ta o.r.txns.length tc) (.slice pa o.r.pages.length pc)) := (hs9.block x n8.lt HXG.out).trans n8; have dd1 : w9.cell? ⟨x, 1, none⟩ = some (.int .i64 o.i) := Blk.cell n9 1))
           have HT9 := Lib.hid T9
           have HTB : Hid ((Y.dropY o.i).1.t ≤ 1 + (j + 1)) := by have := HT.out; have := (drop_len (Y := Y) o.i).2; unfold Hid; omega
           have HLB : Hid ((Y.dropY o.i).1.l.length = f) := by have := HLEN.out; have := (drop_len (Y := Y) o.i).1; unfold Hid; omega
           clear td T8 T9 hs8 hs9 n8 n9 b1 c1 dd1
           go_wp2_with fail
           go_meet
           exact ⟨rfl, F8, G9, _, HTB.out, HLB.out, HT9.out⟩
       have e4 : (o.kind == 4) = false := by simp [k4]
       clear k4
       by_cases k5 : o.kind = 5
       · as_aux_lemma =>
           have ek : (o.kind == 5) = true := by simp [k5]
           clear k5
           have hT := HT.out
           have hL := HL.out
           have htl : Y.t < 4294967295 := by omega
           clear hT hL
           have u5 : w5.cell? ⟨x, 5, none⟩ = some (.int .i64 o.r.kind) := Blk.cell N5 5
           have u6 : w5.cell? ⟨x, 6, none⟩ = some (.int .i64 o.r.txn) := Blk.cell N5 6
           have u7 : w5.cell? ⟨x, 7, none⟩ = some (.int .i64 o.r.page) := Blk.cell N5 7
           have u8 : w5.cell? ⟨x, 8, none⟩ = some (.int .i64 o.r.off) := Blk.cell N5 8
           have u9 : w5.cell? ⟨x, 9, none⟩ = some (.int .i64 o.r.prev) := Blk.cell N5 9
           have u10 : w5.cell? ⟨x, 10, none⟩ = some (.int .i64 o.r.next) := Blk.cell N5 10
           have u11 : w5.cell? ⟨x, 11, none⟩ = some (.int .i64 o.r.beg) := Blk.cell N5 11
           have u12 : w5.cell? ⟨x, 12, none⟩ = some (.string o.r.before) := Blk.cell N5 12
           have u13 : w5.cell? ⟨x, 13, none⟩ = some (.string o.r.after) := Blk.cell N5 13
           have u14 : w5.cell? ⟨x, 14, none⟩ = some (.slice ta o.r.txns.length tc) := Blk.cell N5 14
           have u15 : w5.cell? ⟨x, 15, none⟩ = some (.slice pa o.r.pages.length pc) := Blk.cell N5 15
           have AP := Lib.hid (T5.out.appA (v := (.agg (recCells o.r (.slice ta o.r.txns.length tc) (.slice pa o.r.pages.length pc)))) (r := o.r) ⟨_, _, rfl, HLS.out.keep T5.out.below⟩ HFO.out)
           go_wp2_with fail
           refine AP.out.mono ?_
           rintro e w6 ⟨rfl, F6, t6, hs6⟩
           have n6 : Blk w6 x 51 (op8Cells o (.slice ta o.r.txns.length tc) (.slice pa o.r.pages.length pc)) := (hs6.block x N5.lt HXF.out).trans N5
           have hxf6 : Hid (¬ F6 x) := fun e => (hs6.foot x e).elim HXF.out fun e => by have := N5.lt; omega
           have BP0 := t6.appB (v := (.agg (recCells o.r (.slice ta o.r.txns.length tc) (.slice pa o.r.pages.length pc)))) (r := o.r) ⟨_, _, rfl, HLS.out.keep t6.below⟩ HFO.out
           clear AP u5 u6 u7 u8 u9 u10 u11 u12 u13 u14 u15
           generalize hap : Y.lg.app o.r = R at *
           obtain ⟨at_, er, lg'⟩ := R
           simp only at BP0 t6 ⊢
           have BP := Lib.hid BP0
           clear BP0 t6 hs6 hap
           have u5 : w6.cell? ⟨x, 5, none⟩ = some (.int .i64 o.r.kind) := Blk.cell n6 5
           have u6 : w6.cell? ⟨x, 6, none⟩ = some (.int .i64 o.r.txn) := Blk.cell n6 6
           have u7 : w6.cell? ⟨x, 7, none⟩ = some (.int .i64 o.r.page) := Blk.cell n6 7
           have u8 : w6.cell? ⟨x, 8, none⟩ = some (.int .i64 o.r.off) := Blk.cell n6 8
           have u9 : w6.cell? ⟨x, 9, none⟩ = some (.int .i64 o.r.prev) := Blk.cell n6 9
           have u10 : w6.cell? ⟨x, 10, none⟩ = some (.int .i64 o.r.next) := Blk.cell n6 10
           have u11 : w6.cell? ⟨x, 11, none⟩ = some (.int .i64 o.r.beg) := Blk.cell n6 11
           have u12 : w6.cell? ⟨x, 12, none⟩ = some (.string o.r.before) := Blk.cell n6 12
           have u13 : w6.cell? ⟨x, 13, none⟩ = some (.string o.r.after) := Blk.cell n6 13
           have u14 : w6.cell? ⟨x, 14, none⟩ = some (.slice ta o.r.txns.length tc) := Blk.cell n6 14
           have u15 : w6.cell? ⟨x, 15, none⟩ = some (.slice pa o.r.pages.length pc) := Blk.cell n6 15
           go_wp2_with fail
           refine BP.out.mono ?_
           rintro e w7 ⟨rfl, G7, t7, hs7⟩
           have n7 : Blk w7 x 51 (op8Cells o (.slice ta o.r.txns.length tc) (.slice pa o.r.pages.length pc)) := (hs7.block x n6.lt HXG.out).trans n6
           have hxg7 : Hid (¬ G7 x) := fun e => (hs7.foot x e).elim HXG.out fun e => by have := n6.lt; omega
           clear BP u5 u6 u7 u8 u9 u10 u11 u12 u13 u14 u15
           as_aux_lemma =>
             obtain ⟨Y7, hY7⟩ : ∃ Y7 : Y8, Y7 = { Y with lg := lg' } := ⟨_, rfl⟩
             have HY7t : Hid (Y7.t = Y.t ∧ Y7.l.length = Y.l.length) := by subst hY7; exact ⟨rfl, rfl⟩
             rw [← hY7] at t7
             have ga := t7.getA o.r.page (by have := HY7t.out.1; omega)
             unfold pgOut at ga
             have GA := Lib.hid ga
             have u7 : w7.cell? ⟨x, 7, none⟩ = some (.int .i64 o.r.page) := Blk.cell n7 7
             have HT7 := Lib.hid t7
             clear ga hs7 n6 hY7 t7
             go_wp2_with fail
             refine GA.out.mono ?_
             rintro e w8 ⟨rfl, F8, t8, hs8⟩
             have n8 : Blk w8 x 51 (op8Cells o (.slice ta o.r.txns.length tc) (.slice pa o.r.pages.length pc)) := (hs8.block x n7.lt hxf6.out).trans n7
             have hxf8 : Hid (¬ F8 x) := fun e => (hs8.foot x e).elim hxf6.out fun e => by have := n7.lt; omega
             have hgt := (HT7.out.okA.get o.r.page).2.2
             have hgl := get_len HT7.out.okA o.r.page
             clear u7 GA
             generalize hga : Y7.getY A.base A.n o.r.page = R at *
             obtain ⟨Y9, pg, er2⟩ := R
             simp only at hgt hgl t8 ⊢
             have HGT : Hid (Y9.t ≤ 1 + (j + 1)) := by have := HT.out; have := HY7t.out.1; unfold Hid; omega
             have HGLEN : Hid (Y9.l.length = f) := by have := HLEN.out; have := HY7t.out.2; unfold Hid; omega
             have X6 := Blk.new w8 45 #[.int .i64 pg.1, .string pg.2]
             have hb6 : Below w8.heap.size w8 (w8.alloc (.cells #[.int .i64 pg.1, .string pg.2] 45)) := (Below.refl _ _).alloc (Nat.le_refl _) _
             have t9 := t8.more hb6
             have n9 : Blk (w8.alloc (.cells #[.int .i64 pg.1, .string pg.2] 45)) x 51 (op8Cells o (.slice ta o.r.txns.length tc) (.slice pa o.r.pages.length pc)) := Blk.alloc n8 _
             have GB := t9.getB o.r.page (by have := HY7t.out.1; omega)
             rw [hga] at GB
             unfold pgOut at GB
             have HGB := Lib.hid GB
             have HXG6 : Hid (¬ G7 w8.heap.size) := fun e => by have := t8.b.lt _ e; omega
             have HXF6 : Hid (¬ F8 w8.heap.size) := fun e => by have := t8.a.lt _ e; omega
             have X7 := Lib.hid X6
             clear GB hb6 t8 hs8 hga t9 X6 n7 n8 HT7 hgt hgl
             go_upto_region 36 with fail
             generalize w8.alloc (.cells #[.int .i64 pg.1, .string pg.2] 45) = w9 at *
             generalize w8.heap.size = y1 at *
             have u7 : w9.cell? ⟨x, 7, none⟩ = some (.int .i64 o.r.page) := Blk.cell n9 7
             go_wp2_with fail
             refine HGB.out.mono ?_
             rintro e w10 ⟨rfl, G8, t8, hs8⟩
             have n10 : Blk w10 x 51 (op8Cells o (.slice ta o.r.txns.length tc) (.slice pa o.r.pages.length pc)) := (hs8.block x n9.lt hxg7.out).trans n9
             have hxg8 : Hid (¬ G8 x) := fun e => (hs8.foot x e).elim hxg7.out fun e => by have := n9.lt; omega
             have X8 := (hs8.block y1 X7.out.lt HXG6.out).trans X7.out
             have HYG8 : Hid (¬ G8 y1) := fun e => (hs8.foot y1 e).elim HXG6.out fun e => by have := X7.out.lt; omega
             have hb8 : Below w10.heap.size w10 (w10.alloc (.cells #[.int .i64 pg.1, .string pg.2] 45)) := (Below.refl _ _).alloc (Nat.le_refl _) _
             have X9 : Blk (w10.alloc (.cells #[.int .i64 pg.1, .string pg.2] 45)) y1 45 #[.int .i64 pg.1, .string pg.2] := Blk.alloc X8 _
             have Z9 := Blk.new w10 45 #[.int .i64 pg.1, .string pg.2]
             have n11 : Blk (w10.alloc (.cells #[.int .i64 pg.1, .string pg.2] 45)) x 51 (op8Cells o (.slice ta o.r.txns.length tc) (.slice pa o.r.pages.length pc)) := Blk.alloc n10 _
             have HZF : Hid (¬ F8 w10.heap.size) := fun e => by have := t8.a.lt _ e; omega
             have HZG : Hid (¬ G8 w10.heap.size) := fun e => by have := t8.b.lt _ e; omega
             have T9 := Lib.hid (t8.more hb8)
             clear hb8 t8 hs8 X8 X7 HGB u7 HXG6 n9 n10
             as_aux_lemma =>
               go_upto_region 37 with fail
               change Code.wp _ _ _ _ (w10.alloc (.cells #[.int .i64 pg.1, .string pg.2] 45))
               generalize w10.alloc (.cells #[.int .i64 pg.1, .string pg.2] 45) = w11 at *
               generalize w10.heap.size = y2 at *
               have AY0 : ∀ W, Below w1.heap.size w1 W → Calls Tryz.prog 21 #[.agg #[.int .i64 pg.1, .string pg.2], .int .i64 (at_ : Int), (.agg (recCells o.r (.slice ta o.r.txns.length tc) (.slice pa o.r.pages.length pc)))] W fun e w' => e = .returned (.agg #[.int .i64 (applyR pg.1 pg.2 (at_ : Int) o.r).1, .string (applyR pg.1 pg.2 (at_ : Int) o.r).2]) ∧ Below W.heap.size W w' := fun W hW => pgRefApply_any pg.1 (at_ : Int) pg.2 ⟨_, _, rfl, HLS.out.keep hW⟩
               generalize applyR pg.1 pg.2 (at_ : Int) o.r = ap at *
               have AY := Lib.hid AY0
               clear AY0
               have SS : Hid (∀ W, Blk W x 51 (op8Cells o (.slice ta o.r.txns.length tc) (.slice pa o.r.pages.length pc)) → Blk W y1 45 #[.int .i64 pg.1, .string pg.2] → Blk W y2 45 #[.int .i64 pg.1, .string pg.2] → (W.cell? ⟨x, 5, none⟩ = some (.int .i64 o.r.kind) ∧ W.cell? ⟨x, 6, none⟩ = some (.int .i64 o.r.txn) ∧ W.cell? ⟨x, 7, none⟩ = some (.int .i64 o.r.page) ∧ W.cell? ⟨x, 8, none⟩ = some (.int .i64 o.r.off) ∧ W.cell? ⟨x, 9, none⟩ = some (.int .i64 o.r.prev) ∧ W.cell? ⟨x, 10, none⟩ = some (.int .i64 o.r.next) ∧ W.cell? ⟨x, 11, none⟩ = some (.int .i64 o.r.beg) ∧ W.cell? ⟨x, 12, none⟩ = some (.string o.r.before) ∧ W.cell? ⟨x, 13, none⟩ = some (.string o.r.after) ∧ W.cell? ⟨x, 14, none⟩ = some (.slice ta o.r.txns.length tc) ∧ W.cell? ⟨x, 15, none⟩ = some (.slice pa o.r.pages.length pc) ∧ W.cell? ⟨y1, 0, none⟩ = some (.int .i64 pg.1) ∧ W.cell? ⟨y1, 1, none⟩ = some (.string pg.2) ∧ W.cell? ⟨y2, 0, none⟩ = some (.int .i64 pg.1) ∧ W.cell? ⟨y2, 1, none⟩ = some (.string pg.2))) := fun W h1 h2 h3 => ⟨h1.cell 5, h1.cell 6, h1.cell 7, h1.cell 8, h1.cell 9, h1.cell 10, h1.cell 11, h1.cell 12, h1.cell 13, h1.cell 14, h1.cell 15, h2.cell 0, h2.cell 1, h3.cell 0, h3.cell 1⟩
               have KB : Hid (∀ W W', Below W.heap.size W W' → Blk W x 51 (op8Cells o (.slice ta o.r.txns.length tc) (.slice pa o.r.pages.length pc)) → Blk W y1 45 #[.int .i64 pg.1, .string pg.2] → Blk W y2 45 #[.int .i64 pg.1, .string pg.2] → Blk W' x 51 (op8Cells o (.slice ta o.r.txns.length tc) (.slice pa o.r.pages.length pc)) ∧ Blk W' y1 45 #[.int .i64 pg.1, .string pg.2] ∧ Blk W' y2 45 #[.int .i64 pg.1, .string pg.2]) := fun W W' hb h1 h2 h3 => ⟨h1.keep hb h1.lt, h2.keep hb h2.lt, h3.keep hb h3.lt⟩
               have td := T9.out.more (Below.refl _ _).drew
               have n0 : Blk w11.drew x 51 (op8Cells o (.slice ta o.r.txns.length tc) (.slice pa o.r.pages.length pc)) := n11
               have a0 : Blk w11.drew y1 45 #[.int .i64 pg.1, .string pg.2] := X9
               have b0 : Blk w11.drew y2 45 #[.int .i64 pg.1, .string pg.2] := Z9
               clear n11 X9 Z9
               go_region_held3 (fun W => W.cell? ⟨x, 5, none⟩ = some (.int .i64 o.r.kind) ∧ W.cell? ⟨x, 6, none⟩ = some (.int .i64 o.r.txn) ∧ W.cell? ⟨x, 7, none⟩ = some (.int .i64 o.r.page) ∧ W.cell? ⟨x, 8, none⟩ = some (.int .i64 o.r.off) ∧ W.cell? ⟨x, 9, none⟩ = some (.int .i64 o.r.prev) ∧ W.cell? ⟨x, 10, none⟩ = some (.int .i64 o.r.next) ∧ W.cell? ⟨x, 11, none⟩ = some (.int .i64 o.r.beg) ∧ W.cell? ⟨x, 12, none⟩ = some (.string o.r.before) ∧ W.cell? ⟨x, 13, none⟩ = some (.string o.r.after) ∧ W.cell? ⟨x, 14, none⟩ = some (.slice ta o.r.txns.length tc) ∧ W.cell? ⟨x, 15, none⟩ = some (.slice pa o.r.pages.length pc) ∧ W.cell? ⟨y1, 0, none⟩ = some (.int .i64 pg.1) ∧ W.cell? ⟨y1, 1, none⟩ = some (.string pg.2) ∧ W.cell? ⟨y2, 0, none⟩ = some (.int .i64 pg.1) ∧ W.cell? ⟨y2, 1, none⟩ = some (.string pg.2)) (first | exact SS.out _ n0 a0 b0 | exact SS.out _ n1 a1 b1 | exact SS.out _ n2 a2 b2 | exact SS.out _ n3 a3 b3 | exact SS.out _ n4 a4 b4) (first
                 | (go_at_call 21; refine (AY.out _ td.below).mono ?_; rintro e w12 ⟨rfl, hb12⟩; have t12 := td.more hb12; obtain ⟨n1, a1, b1⟩ := KB.out _ _ hb12 n0 a0 b0)
                 | (go_at_call 13; refine (t12.putA o.r.page ap).mono ?_; rintro e w13 ⟨rfl, F13, t13, hs13⟩; have n2 : Blk w13 x 51 (op8Cells o (.slice ta o.r.txns.length tc) (.slice pa o.r.pages.length pc)) := (hs13.block x n1.lt hxf8.out).trans n1; have a2 : Blk w13 y1 45 #[.int .i64 pg.1, .string pg.2] := (hs13.block y1 a1.lt HXF6.out).trans a1; have b2 : Blk w13 y2 45 #[.int .i64 pg.1, .string pg.2] := (hs13.block y2 b1.lt HZF.out).trans b1)
                 | (go_at_call 21; refine (AY.out _ t13.below).mono ?_; rintro e w14 ⟨rfl, hb14⟩; have t14 := t13.more hb14; obtain ⟨n3, a3, b3⟩ := KB.out _ _ hb14 n2 a2 b2)
                 | (go_at_call 14; refine (t14.putB o.r.page ap).mono ?_; rintro e w15 ⟨rfl, G15, t15, hs15⟩; have n4 : Blk w15 x 51 (op8Cells o (.slice ta o.r.txns.length tc) (.slice pa o.r.pages.length pc)) := (hs15.block x n3.lt hxg8.out).trans n3; have a4 : Blk w15 y1 45 #[.int .i64 pg.1, .string pg.2] := (hs15.block y1 a3.lt HYG8.out).trans a3; have b4 : Blk w15 y2 45 #[.int .i64 pg.1, .string pg.2] := (hs15.block y2 b3.lt HZG.out).trans b3))
               have HT15 := Lib.hid t15
               have HPL := Lib.hid (put_len (Y := Y9) o.r.page ap)
               have HTB : Hid ((Y9.putY o.r.page ap).1.t ≤ 1 + (j + 1)) := by have := HPL.out.2; have := HGT.out; unfold Hid; omega
               have HLB : Hid ((Y9.putY o.r.page ap).1.l.length = f) := by have := HPL.out.1; have := HGLEN.out; unfold Hid; omega
               clear td t12 t13 t14 t15 n0 n1 n2 n3 n4 a0 a1 a2 a3 a4 b0 b1 b2 b3 b4 hb12 hb14 hs13 hs15
               go_wp2_with fail
               go_meet
               exact ⟨rfl, F13, G15, _, HTB.out, HLB.out, HT15.out⟩
       have e5 : (o.kind == 5) = false := by simp [k5]
       clear k5
       as_aux_lemma =>
         have d2 : w5.cell? ⟨x, 2, none⟩ = some (.int .i64 o.n) := N5.cell 2
         have HON : Hid (o.n < 9223372036854775808) := by
           have h := HWF.out.n
           simp [Lit.wf, IntKind.min, IntKind.max, IntKind.signed, IntKind.bits] at h
           unfold Hid; omega
         go_wp2_with fail
         refine (T5.out.armA o.n HON.out).mono ?_
         rintro e w8 ⟨rfl, F8, T8, hs8⟩
         have n8 : Blk w8 x 51 (op8Cells o (.slice ta o.r.txns.length tc) (.slice pa o.r.pages.length pc)) := (hs8.block x N5.lt HXF.out).trans N5
         have c2 : w8.cell? ⟨x, 2, none⟩ = some (.int .i64 o.n) := n8.cell 2
         obtain ⟨⟨u, cu⟩, fu, gu, G9, T9⟩ := T8.armB o.n HON.out
         have HT9 := Lib.hid T9
         have HTB : Hid (Y.t ≤ 1 + (j + 1)) := by have := HT.out; unfold Hid; omega
         clear T8 T9 hs8 d2 n8 gu
         have e9 : (if 0 ≤ o.n then o.n else -1) = max o.n (-1) := by split <;> omega
         rw [e9] at HT9
         clear e9
         go_wp2_with fail
         go_meet
         exact ⟨rfl, F8, G9, { Y with D := Y.D.arm o.n }, HTB.out, HLEN.out, HT9.out⟩
     case rest =>
       obtain ⟨rfl, F6, G6, Y6, ht6, hl6, T6⟩ := hcut
       as_aux_lemma =>
         have HT6 := Lib.hid T6
         have HTB := Lib.hid ht6
         have HLB := Lib.hid hl6
         obtain ⟨g2, va, vc, g1⟩ := T6.refDisk
         have z1 : wc.cell? ⟨zb, 1, none⟩ = some (.int .i64 f) := (XZ0.out wc T6.below).cell 1
         have LGD : Hid (B.gd < wc.heap.size) := World.block_lt_of_cell? wc _ g2
         have LZB : Hid (zb < wc.heap.size) := (XZ0.out wc T6.below).lt
         have HLD : Hid ((dirtyL Y6.l).length ≤ 100) := Nat.le_trans (List.length_filterMap_le _ _) (by simp)
         have hwl : (Y6.D.waits.length : Int) ≤ 9223372036854775807 := by
           rcases T6.okA.alive with ⟨_, h⟩ | ⟨σ, c⟩
           · omega
           · rw [c.lies.waits]; simp
         clear T6 ht6 hl6 T5 N5 d0 HLS HWF HFO HXF HXG HXN HT HLEN
         generalize hgone : Y6.D.gone = gone at *
         have HGONE := Lib.hid hgone
         clear hgone
         generalize hwts : Y6.D.waits.length = nw at *
         have HWTS := Lib.hid hwts
         clear hwts
         go_upto_region 39 with fail
         have td := HT6.out.more (Below.refl _ _).drew
         go_region_held3 (fun W => W.cell? ⟨B.gd, 2, none⟩ = some (.bool gone) ∧ W.cell? ⟨B.gd, 1, none⟩ = some (.slice va nw vc) ∧ W.cell? ⟨zb, 1, none⟩ = some (.int .i64 f)) (first | exact ⟨g2, g1, z1⟩ | exact ⟨a2, a1, y1⟩ | exact ⟨b2, b1, y2⟩ | exact ⟨c2, c1, y3⟩) (first
           | (go_at_call 24; refine (poDirty_any td.a).mono ?_; rintro e wa ⟨v1, rfl, o1, hba⟩; have ta := td.more hba; have a2 := (hba.cell (p := ⟨B.gd, 2, none⟩) LGD.out).trans g2; have a1 := (hba.cell (p := ⟨B.gd, 1, none⟩) LGD.out).trans g1; have y1 := (hba.cell (p := ⟨zb, 1, none⟩) LZB.out).trans z1; have la := Lib.hid (Nat.lt_of_lt_of_le LGD.out hba.size); have lza := Lib.hid (Nat.lt_of_lt_of_le LZB.out hba.size))
           | (go_at_call 25; refine (rqDirty_any ta.b).mono ?_; rintro e wb ⟨v2, rfl, o2, hbb⟩; have tb := ta.more hbb; have b2 := (hbb.cell (p := ⟨B.gd, 2, none⟩) la.out).trans a2; have b1 := (hbb.cell (p := ⟨B.gd, 1, none⟩) la.out).trans a1; have y2 := (hbb.cell (p := ⟨zb, 1, none⟩) lza.out).trans y1; have lb := Lib.hid (Nat.lt_of_lt_of_le la.out hbb.size); have lzb := Lib.hid (Nat.lt_of_lt_of_le lza.out hbb.size); have o1' := own_below o1 hbb)
           | (go_at_call 23; refine (rqSame_any o1' o2 HLD.out).mono ?_; rintro e wcc ⟨rfl, hbc⟩; have tcc := tb.more hbc; have c2 := (hbc.cell (p := ⟨B.gd, 2, none⟩) lb.out).trans b2; have c1 := (hbc.cell (p := ⟨B.gd, 1, none⟩) lb.out).trans b1; have y3 := (hbc.cell (p := ⟨zb, 1, none⟩) lzb.out).trans y2)
           | (go_at_call 26; refine (deadAs tcc HGONE.out).mono ?_; rintro e wdd ⟨rfl, rfl⟩)
           | (go_at_call 27; refine (waitingAs tcc HWTS.out).mono ?_; rintro e wdd ⟨rfl, rfl⟩)
           | (go_at_call 28; refine (framesAs tcc HLB.out).mono ?_; rintro e wdd ⟨rfl, rfl⟩))
         have HTC := Lib.hid tcc
         clear td ta tb tcc o1 o2 o1' hba hbb hbc a2 a1 b2 b1 c2 c1 y1 y2 y3 g2 g1 z1 la lza lb lzb LGD LZB
         go_wp2_with fail
         go_loopw [30] (fun s30 wr => ∃ i : Nat, s30 = .int .i64 ((i : Int) - 1) ∧ i ≤ p + 2 ∧ Duo w1 wr F6 A G6 B Y6 Y6) (fun s30 _ => ((p : Int) + 1 - intOf s30).toNat)
         case atStart => exact ⟨0, rfl, by omega, HTC.out⟩
         case round =>
           obtain ⟨i, rfl, hip, hti⟩ := hrel
           have z0 : wr.cell? ⟨zb, 0, none⟩ = some (.int .i64 p) := (XZ0.out _ hti.below).cell 0
           by_cases hin : i ≤ p + 1
           · have hI1 : (i : Int) - 1 ≤ p := by omega
             have HMS : Hid (((p : Int) + 1 - ((i : Int) - 1 + 1)).toNat < ((p : Int) + 1 - ((i : Int) - 1)).toNat) := by unfold Hid; omega
             have HNX : Hid ((i : Int) - 1 + 1 = ((i + 1 : Nat) : Int) - 1) := by unfold Hid; omega
             have HIN := Lib.hid hin
             have HTI := Lib.hid hti
             have hwi : IntKind.i64.wrap ((i : Int) - 1 + 1) = (i : Int) - 1 + 1 := IntWalk.i64_in _ (by omega)
             clear hin hip hti HTC
             generalize (i : Int) - 1 = ii at *
             have hT6 : Y6.t ≤ 4294967296 := by have := HTB.out; have := HL.out; omega
             have RA0 := p8_readAny HTI.out.a ii hT6
             have RB0 : ∀ W, Duo w1 W F6 A G6 B Y6 Y6 → Calls Tryz.prog 30 #[.pointer (some ⟨B.s, 0, none⟩), .int .i64 ii] W fun e w' => e = .returned (pgOut (Y6.readY A.n ii).1 (Y6.readY A.n ii).2) ∧ Below W.heap.size W w' := fun W hW => by
               have := p9_readAny hW.b ii hT6
               rw [hW.n] at this
               exact this
             have PK0 : ∀ W, Duo w1 W F6 A G6 B Y6 Y6 → Calls Tryz.prog 33 #[.pointer (some ⟨A.q, 0, none⟩), .int .i64 ii] W fun e w' => e = .returned (pgOut (Y6.peekY A.n ii).1 (Y6.peekY A.n ii).2) ∧ Below W.heap.size W w' := fun W hW => poPeek_any hW.a ii hT6
             have HA0 : ∀ W, Duo w1 W F6 A G6 B Y6 Y6 → Calls Tryz.prog 31 #[.pointer (some ⟨A.q, 0, none⟩), .int .i64 ii] W fun e w' => e = .returned (.int .i64 (holdsI Y6.l ii)) ∧ W = w' := fun W hW => poHolds_any hW.a ii
             have HB0 : ∀ W, Duo w1 W F6 A G6 B Y6 Y6 → Calls Tryz.prog 32 #[.pointer (some ⟨B.q, 0, none⟩), .int .i64 ii] W fun e w' => e = .returned (.int .i64 (holdsI Y6.l ii)) ∧ W = w' := fun W hW => rqHolds_any hW.b ii
             have HOR0 := holds_or Y6 A.n ii
             clear hT6
             generalize Y6.readY A.n ii = R at *
             generalize Y6.peekY A.n ii = PR at *
             generalize holdsI Y6.l ii = hv at *
             obtain ⟨qp, er⟩ := R
             unfold pgOut at RA0 RB0 PK0
             simp only at RA0 RB0
             have RA := Lib.hid RA0
             have RB := Lib.hid RB0
             have PK := Lib.hid PK0
             have HHA := Lib.hid HA0
             have HHB := Lib.hid HB0
             have HOR := Lib.hid HOR0
             clear RA0 RB0 PK0 HA0 HB0 HOR0
             go_wp2_with fail
             as_aux_lemma =>
               refine RA.out.mono ?_
               rintro e v6 ⟨rfl, hb6⟩
               have X6 := Blk.new v6 45 #[.int .i64 qp.1, .string qp.2]
               have t7 := (HTI.out.more hb6).more ((Below.refl _ _).alloc (Nat.le_refl _) (.cells #[.int .i64 qp.1, .string qp.2] 45))
               have HYF : Hid (¬ F6 v6.heap.size) := fun e => by have := (HTI.out.more hb6).a.lt _ e; omega
               have HYG : Hid (¬ G6 v6.heap.size) := fun e => by have := (HTI.out.more hb6).b.lt _ e; omega
               have HYN : Hid (w1.heap.size ≤ v6.heap.size) := (HTI.out.more hb6).below.size
               have T7 := Lib.hid t7
               clear hb6 t7 RA HTI z0
               go_upto_region 45 with fail
               change Code.wp _ _ _ _ (v6.alloc (.cells #[.int .i64 qp.1, .string qp.2] 45))
               generalize v6.alloc (.cells #[.int .i64 qp.1, .string qp.2] 45) = v7 at *
               generalize v6.heap.size = y1 at *
               have RB7 := Lib.hid (RB.out _ T7.out)
               go_wp2_with fail
               refine RB7.out.mono ?_
               rintro e v8 ⟨rfl, hb8⟩
               have X8 := X6.keep hb8 X6.lt
               have hba := (Below.refl v8.heap.size v8).alloc (Nat.le_refl _) (.cells #[.int .i64 qp.1, .string qp.2] 45)
               have X9 := X8.keep hba X8.lt
               have Z9 := Blk.new v8 45 #[.int .i64 qp.1, .string qp.2]
               have HZF : Hid (¬ F6 v8.heap.size) := fun e => by have := (T7.out.more hb8).a.lt _ e; omega
               have HZG : Hid (¬ G6 v8.heap.size) := fun e => by have := (T7.out.more hb8).b.lt _ e; omega
               have HZN : Hid (w1.heap.size ≤ v8.heap.size) := (T7.out.more hb8).below.size
               have HYZ : Hid (y1 ≠ v8.heap.size) := by have := X8.lt; unfold Hid; omega
               have T9 := Lib.hid ((T7.out.more hb8).more hba)
               clear hb8 hba X6 X8 RB RB7 T7
               as_aux_lemma =>
                 go_upto_region 46 with fail
                 change Code.wp _ _ _ _ (v8.alloc (.cells #[.int .i64 qp.1, .string qp.2] 45))
                 generalize v8.alloc (.cells #[.int .i64 qp.1, .string qp.2] 45) = v9 at *
                 generalize v8.heap.size = y2 at *
                 have HA9 := Lib.hid (HHA.out _ T9.out)
                 have HB9 := Lib.hid (HHB.out _ T9.out)
                 clear HHA HHB
                 go_wp2_with fail
                 refine HA9.out.mono ?_
                 rintro e w' ⟨rfl, rfl⟩
                 go_wp2_with fail
                 refine HB9.out.mono ?_
                 rintro e w' ⟨rfl, rfl⟩
                 go_wp2_with (first
                   | (refine wpList_load_rowG rfl 45 _ rfl y1 rfl 45 _ (0, 0) _ X9 Tryz.underlying45 rfl (by kernel_rfl) ?_)
                   | (refine wpList_load_rowG rfl 45 _ rfl y2 rfl 45 _ (0, 0) _ Z9 Tryz.underlying45 rfl (by kernel_rfl) ?_)
                   | (refine wp_page_neq_self _ _ _ rfl rfl qp.1 qp.2 rfl rfl ?_))
                 refine HB9.out.mono ?_
                 rintro e w' ⟨rfl, rfl⟩
                 rcases HOR.out with ⟨rfl, hpr⟩ | ⟨k, fr, rfl, hk, hpr⟩
                 · as_aux_lemma =>
                     subst hpr
                     have PK9 := PK.out _ T9.out
                     simp only at PK9
                     have HPK := Lib.hid PK9
                     clear PK9 PK HOR HA9 HB9
                     go_wp2_with fail
                     refine HPK.out.mono ?_
                     rintro e v10 ⟨rfl, hb10⟩
                     have X10 := X9.keep hb10 X9.lt
                     have Z10 := Z9.keep hb10 Z9.lt
                     have X11 := X10.setRow #[.int .i64 qp.1, .string qp.2]
                     have Z11 := Z10.farRow HYZ.out.symm #[.int .i64 qp.1, .string qp.2]
                     have T11 := Lib.hid ((T9.out.more hb10).row HYF.out HYG.out HYN.out #[.int .i64 qp.1, .string qp.2])
                     clear hb10 X9 Z9 Z10 HPK T9
                     go_upto_region 52 with (refine wpList_store_row rfl 45 _ _ rfl y1 _ rfl rfl 45 _ X10 (by kernel_rfl) (by simp) (by simp [Value.oneCell']) ?_)
                     change Code.wp _ _ _ _ (v10.setRow y1 #[.int .i64 qp.1, .string qp.2])
                     generalize v10.setRow y1 #[.int .i64 qp.1, .string qp.2] = v11 at *
                     clear X10
                     go_wp2_with (first
                       | (refine wpList_load_rowG rfl 45 _ rfl y1 rfl 45 _ (0, 0) _ X11 Tryz.underlying45 rfl (by kernel_rfl) ?_)
                       | (refine wpList_load_rowG rfl 45 _ rfl y2 rfl 45 _ (0, 0) _ Z11 Tryz.underlying45 rfl (by kernel_rfl) ?_)
                       | (refine wp_page_neq_self _ _ _ rfl rfl qp.1 qp.2 rfl rfl ?_))
                     exact ⟨⟨i + 1, by rw [← HNX.out], by have := HIN.out; omega, T11.out⟩, by simp only [intOf]; exact HMS.out⟩
                 · as_aux_lemma =>
                     subst hpr
                     have hq := T9.out.b.isQ
                     obtain ⟨_, _, q2, _⟩ := hq.cells
                     obtain ⟨_, r1, r2, _, _⟩ := hq.rowS hk
                     have hkl : k < Y6.l.length := (List.getElem?_eq_some_iff.1 hk).1
                     have hl8 := T9.out.okA.len8
                     have hkl1 : (k : Int) < Y6.l.length := by omega
                     have hl81 : (Y6.l.length : Int) ≤ 8 := by omega
                     clear hkl hl8 hq hk
                     generalize Y6.l.length = nl at *
                     generalize fr.pg = fp at *
                     have T10 := Lib.hid (T9.out.row HZF.out HZG.out HZN.out #[.int .i64 fp.1, .string fp.2])
                     have X10 := X9.farRow HYZ.out #[.int .i64 fp.1, .string fp.2]
                     have Z10 := Z9.setRow #[.int .i64 fp.1, .string fp.2]
                     have PK9 := PK.out _ T10.out
                     simp only at PK9
                     have HPK := Lib.hid PK9
                     clear PK9 PK HOR HA9 HB9 T9
                     go_upto_region 51 with (refine wpList_store_row rfl 45 _ _ rfl y2 _ rfl rfl 45 _ Z9 (by kernel_rfl) (by simp) (by simp [Value.oneCell']) ?_)
                     clear X9 Z9 q2 r1 r2
                     change Code.wp _ _ _ _ (v9.setRow y2 #[.int .i64 fp.1, .string fp.2])
                     generalize v9.setRow y2 #[.int .i64 fp.1, .string fp.2] = v10 at *
                     go_wp2_with fail
                     refine HPK.out.mono ?_
                     rintro e v11 ⟨rfl, hb11⟩
                     have X11 := X10.keep hb11 X10.lt
                     have Z11 := Z10.keep hb11 Z10.lt
                     have X12 := X11.setRow #[.int .i64 fp.1, .string fp.2]
                     have Z12 := Z11.farRow HYZ.out.symm #[.int .i64 fp.1, .string fp.2]
                     have T12 := Lib.hid ((T10.out.more hb11).row HYF.out HYG.out HYN.out #[.int .i64 fp.1, .string fp.2])
                     clear hb11 X10 Z10 Z11 HPK T10
                     go_upto_region 52 with (refine wpList_store_row rfl 45 _ _ rfl y1 _ rfl rfl 45 _ X11 (by kernel_rfl) (by simp) (by simp [Value.oneCell']) ?_)
                     change Code.wp _ _ _ _ (v11.setRow y1 #[.int .i64 fp.1, .string fp.2])
                     generalize v11.setRow y1 #[.int .i64 fp.1, .string fp.2] = v12 at *
                     clear X11
                     go_wp2_with (first
                       | (refine wpList_load_rowG rfl 45 _ rfl y1 rfl 45 _ (0, 0) _ X12 Tryz.underlying45 rfl (by kernel_rfl) ?_)
                       | (refine wpList_load_rowG rfl 45 _ rfl y2 rfl 45 _ (0, 0) _ Z12 Tryz.underlying45 rfl (by kernel_rfl) ?_)
                       | (refine wp_page_neq_self _ _ _ rfl rfl fp.1 fp.2 rfl rfl ?_))
                     exact ⟨⟨i + 1, by rw [← HNX.out], by have := HIN.out; omega, T12.out⟩, by simp only [intOf]; exact HMS.out⟩
           · obtain rfl : i = p + 2 := by omega
             have HTI := Lib.hid hti
             clear hti HTC
             go_wp2
             exact ⟨⟨j + 1, F6, G6, Y6, by go_num, by omega, HTB.out, HLB.out, HTI.out⟩, by simp [intOf]; omega⟩
   · obtain rfl : j = ops.length := by omega
     have HBF := Lib.hid (HB1.out _ T0.out.below)
     clear T0
     go_wp2
     go_ret
     exact ⟨rfl, by rw [HZB.out]; exact HBF.out⟩
end Go.Proofs.YtbplgbkbggmaeaaGreat

namespace Go.Proofs.YtbplgbkbggmaeaaGreat
open Go.RowKit
theorem walkPoolPlays (p f g : Int) (v : Value) (ops : List Op8) (w : World) (hv : IsOps8 w v ops) :
   Calls Tryz.prog 3 #[.agg #[.int .i64 p, .int .i64 f, .int .i64 g], v] w fun e w' => e = .returned (.bool true) ∧ Below w.heap.size w w' := by
 by_cases hz : Sizes8 p f g
 · obtain ⟨⟨p1, p8⟩, ⟨f1, f8⟩, ⟨g8, g64⟩⟩ := hz
   obtain ⟨P, rfl⟩ := Int.eq_ofNat_of_zero_le (show 0 ≤ p by omega)
   obtain ⟨F, rfl⟩ := Int.eq_ofNat_of_zero_le (show 0 ≤ f by omega)
   obtain ⟨G, rfl⟩ := Int.eq_ofNat_of_zero_le (show 0 ≤ g by omega)
   by_cases hl : isLong8 ops
   · exact plays_long P F G (by omega) (by omega) (by omega) (by omega) (by omega) (by omega) v ops w hv hl
   · exact plays_go P F G (by omega) (by omega) (by omega) (by omega) (by omega) (by omega) v ops w hv hl
 · exact plays_bad p f g hz v w
end Go.Proofs.YtbplgbkbggmaeaaGreat

/- careenlaw08.PoolPlays: it returns true for every input, and leaves its arguments as they were: the row's proof, out of the walk.
   Conditions: none beside the row's own (each argument is read as data). -/
namespace Go.Proofs.YtbplgbkbggmaeaaGreat.poolPlays
open Go.ChangeShapes Go.WideShapes Go.ChangeAt Go.RowKit Go.Joins
open Go.ChangeMaps (open_string shut_string)
set_option linter.unusedVariables false
theorem own : ownKnob Tryz.prog.godebug = none := by kernel_rfl
theorem laidOut : laidOutB Tryz.prog = true := by kernel_rfl
theorem cellsSizes : Tryz.prog.cellsOf 23 = 3 := by kernel_rfl
set_option maxRecDepth 100000 in
theorem lifted (os : Os) (started : os.Started) (H : Type) (enc : TypeId × Value → H) :
   ReturnsInHanded {} Tryz.checked os 3 .any (Rows.poolPlaysSpec.pre6 enc Tryz.prog Tryz.f3 Rows.poolPlaysRow.domain false) (Rows.poolPlaysSpec.post enc Tryz.prog Tryz.f3 false true false false) := by
 refine returnsInHanded_of_change (C := Tryz.checked) own started (by kernel_rfl) Tryz.func3
   (ChangeSpec.witness6 (enc := enc) (C := Tryz.checked) false ⟨#[], #[.agg #[.int .i64 0, .int .i64 0, .int .i64 0], .slice none 0 0], []⟩ 8 (by kernel_rfl) (by kernel_rfl) (by kernel_rfl) (by kernel_rfl)) ?_
 intro W base args ds gs before hval0 hW hcnd _
 have hval : ∀ (j : Nat) t v, Tryz.f3.params[j]? = some t → args[j]? = some v → Value.okWide Tryz.prog W .any base t v := hval0
 have hW' := hW
 obtain ⟨p, q, hA0, hV, rfl, hfz, hnd⟩ := hW
 have hA : DataW.TrodAll enc Tryz.prog W 0 (fun _ => true) true Tryz.f3.params.toList args.toList ds p := hA0
 rw [Tryz.params3] at hA hval
 obtain ⟨v0, vs0, d0, ds0, p0, q0, hargs, rfl, rfl, h0, r0⟩ := trodAll_cons hA
 obtain ⟨v1, vs1, d1, ds1, p1, q1, rfl, rfl, rfl, h1, r1⟩ := trodAll_cons r0
 obtain ⟨rfl, rfl, rfl⟩ := trodAll_nil r1
 obtain rfl : args = #[v0, v1] := by cases args; simp_all
 obtain ⟨rfl, rfl⟩ := trodVars_none hV
 have k0 := h0
 have lt0 : ∀ x ∈ p0, x.block < W.heap.size := by obtain ⟨m, hm⟩ := k0; exact DataW.trod_lt m _ _ _ hm
 have k1 := h1
 have lt1 : ∀ x ∈ p1, x.block < W.heap.size := by obtain ⟨m, hm⟩ := k1; exact DataW.trod_lt m _ _ _ hm
 obtain ⟨c00, c01, c02, y00, y01, y02, m0, rfl, rfl, hp0, hy00, hy01, hy02⟩ := open_agg3 Tryz.underlying23 (by kernel_rfl) cellsSizes (hval 0 23 v0 rfl rfl) h0
 obtain ⟨a00, e00, rfl, w00⟩ := DataW.trod_int Tryz.underlying3 hy00
 obtain ⟨a01, e01, rfl, w01⟩ := DataW.trod_int Tryz.underlying3 hy01
 obtain ⟨a02, e02, rfl, w02⟩ := DataW.trod_int Tryz.underlying3 hy02
 simp only [List.cons.injEq, and_true] at e00 e01 e02
 subst e00 e01 e02
 obtain ⟨a1, w1⟩ := open_ops8 (hval 1 24 v1 rfl rfl) h1
 clear hA0 hval0
 refine (walkPoolPlays a00 a01 a02 v1 a1 W w1).mono fun e W' ⟨he, bel⟩ => ?_
 subst he
 exact ⟨_, rfl, _, _, _, [], _, [], hW', trodAll_mk1 (shut_bool Tryz.underlying4 _), (trodAll_cons_mk (Below.trod laidOut (by kernel_rfl) (of_decide_eq_true (by kernel_rfl)) k0 bel lt0) (trodAll_cons_mk (Below.trod laidOut (by kernel_rfl) (of_decide_eq_true (by kernel_rfl)) k1 bel lt1) trodAll_mk0)), rfl, bel.frame _, fun h => by cases h⟩
theorem over : Rows.poolPlaysRow.holds Tryz.pinned (OpenSpec.ofChange Rows.poolPlaysSpec) :=
 OpenClaim.holds_of_wide 3 Tryz.f3 rfl rfl rfl rfl rfl rfl rfl ⟨rfl, rfl, rfl, rfl, rfl⟩ rfl rfl rfl rfl rfl (by kernel_rfl) Tryz.func3 (by kernel_rfl)
   (of_decide_eq_true (by kernel_rfl)) (by unfold Func.isWrapper; first | (rw [if_pos (by decide +kernel)]; kernel_rfl) | (rw [if_neg (by decide +kernel)]; exact ⟨rfl, rfl⟩))
   (fun os started H enc _ => lifted os started H enc)
theorem proved : Rows.PoolPlaysSaid := over
end Go.Proofs.YtbplgbkbggmaeaaGreat.poolPlays
