/- The walk of ChainEnds. -/
import Derived.Test.YtecalnglidjmgaaChV
import Derived.Test.YtecalnglidjmgaaOpen
namespace Go.Proofs.Ytecalnglidjmgaa
open Go.RowKit

theorem und_form (l : List En) (t p s : Int) : ∀ r ∈ (Ch.undo l t p s).1, r.txns = [] ∧ r.pages = [] ∧ r.before.size ≤ 300 ∧ r.kind = 2 ∧ r.txn = t := fun r hr => by
  by_cases h : (Ch.undo l t p s).2 = 0
  · rw [(Ch.undo_ok h).2.2] at hr
    obtain ⟨x, _, rfl⟩ := List.mem_map.1 hr
    exact ⟨rfl, rfl, Nat.zero_le _, rfl, rfl⟩
  · rw [Ch.undo_bad h] at hr
    cases hr
/-- The log that is written on, as the law has it. -/
structure EndsL (w0 : World) (gl g1 g2 B : Nat) (w : World) (v : Value) (q : List Qx) (last at_ : Int) (ups undos : Nat) (U : List Rc) : Prop where
  mem : Ends w0 gl g1 g2 B w v q last at_
  log : Ch.Log (q.map Qx.ent) 1 last at_ U
  cnt : ups = undos + U.length
  len : q.length = ups + undos
  pos : at_ = 128 + 10 * (q.length : Int)
namespace EndsL
variable {w0 w w' : World} {gl g1 g2 B : Nat} {v : Value} {q : List Qx} {last at_ : Int} {ups undos : Nat} {U : List Rc}
theorem more (h : EndsL w0 gl g1 g2 B w v q last at_ ups undos U) (hb : Below w.heap.size w w') : EndsL w0 gl g1 g2 B w' v q last at_ ups undos U := ⟨h.mem.more hb, h.log, h.cnt, h.len, h.pos⟩
theorem form (h : EndsL w0 gl g1 g2 B w v q last at_ ups undos U) : ∀ r ∈ U, r.txns = [] ∧ r.pages = [] ∧ r.before.size ≤ 300 ∧ r.kind = 2 ∧ r.txn = 1 := by
  have := und_form (q.map Qx.ent) 1 last 0
  rwa [h.log.undoes] at this
theorem up (h : EndsL w0 gl g1 g2 B w v q last at_ ups undos U) {v' : Value} (hm : Ends w0 gl g1 g2 B w' v' (q ++ [⟨at_, { upR 0 with prev := last }, .slice none 0 0, .slice none 0 0⟩]) at_ (at_ + 10)) :
    EndsL w0 gl g1 g2 B w' v' (q ++ [⟨at_, { upR 0 with prev := last }, .slice none 0 0, .slice none 0 0⟩]) at_ (at_ + 10) (ups + 1) undos (Ch.undoOf 1 (at_, { upR 0 with prev := last }) :: U) :=
  ⟨hm, by rw [List.map_append]; exact h.log.update (r := { upR 0 with prev := last }) rfl rfl rfl (Int.le_refl 0), by have := h.cnt; simp; omega, by have := h.len; simp; omega, by have := h.pos; simp; omega⟩
theorem un (h : EndsL w0 gl g1 g2 B w v q last at_ ups undos U) {v' : Value} {u : Rc} {U' : List Rc} (hU : U = u :: U') (hm : Ends w0 gl g1 g2 B w' v' (q ++ [⟨at_, { u with prev := last }, .slice none 0 0, .slice none 0 0⟩]) at_ (at_ + 10)) :
    EndsL w0 gl g1 g2 B w' v' (q ++ [⟨at_, { u with prev := last }, .slice none 0 0, .slice none 0 0⟩]) at_ (at_ + 10) ups (undos + 1) U' := by
  have hf := h.form u (by rw [hU]; exact .head _)
  refine ⟨hm, by rw [List.map_append]; exact h.log.undone hU (r := { u with prev := last }) hf.2.2.2.1 hf.2.2.2.2 rfl rfl, ?_, by have := h.len; simp; omega, by have := h.pos; simp; omega⟩
  have := h.cnt
  rw [hU, List.length_cons] at this
  omega
end EndsL

set_option maxRecDepth 100000 in
set_option maxHeartbeats 16000000 in
theorem walkChainEnds (v : Value) (p : List UInt8) (w : World) (hr : Reads w v (p.map fun b => Value.int .u8 (b.toNat : Int))) (hpl : p.length ≤ maxLen) :
    Calls Try.prog 4 #[v] w fun e w' => e = .returned (.bool true) ∧ Below w.heap.size w w' := by
  have HR := Lib.hid hr
  obtain ⟨va, vc, rfl, hvc, hx⟩ := hr
  rw [List.length_map] at hvc
  have AW := Lib.hid (awake11 w)
  unfold maxLen at hpl
  clear hx
  simp only [List.length_map] at *
  by_cases hp : p.length ≤ 200
  · go_enter Try.func4, Try.ntmps4
    go_wp2_with fail
    refine AW.out.mono ?_
    rintro e w1 ⟨rfl, hb⟩
    have HB1 := Lib.hid hb
    clear hb AW
    go_upto_region 5 with fail
    have l0 := ((Blk.new w1 22 #[.slice none 0 0]).alloc (.cells #[.int .i64 0] 3)).alloc (.cells #[.int .i64 128] 3)
    have a0 := (Blk.new (w1.alloc (.cells #[.slice none 0 0] 22)) 3 #[.int .i64 0]).alloc (.cells #[.int .i64 128] 3)
    have n0 := Blk.new ((w1.alloc (.cells #[.slice none 0 0] 22)).alloc (.cells #[.int .i64 0] 3)) 3 #[.int .i64 128]
    have b0 := (((HB1.out.alloc HB1.out.size (.cells #[.slice none 0 0] 22)).alloc (by simp; have := HB1.out.size; omega) (.cells #[.int .i64 0] 3)).alloc (by simp; have := HB1.out.size; omega) (.cells #[.int .i64 128] 3))
    have z0 : (((w1.alloc (.cells #[.slice none 0 0] 22)).alloc (.cells #[.int .i64 0] 3)).alloc (.cells #[.int .i64 128] 3)).heap.size = w1.heap.size + 1 + 1 + 1 := by simp
    have y0 := HB1.out.size
    simp only [World.size_alloc] at a0 n0
    generalize hw3 : ((w1.alloc (.cells #[.slice none 0 0] 22)).alloc (.cells #[.int .i64 0] 3)).alloc (.cells #[.int .i64 128] 3) = w3 at *
    have hinit : EndsL w w1.heap.size (w1.heap.size + 1) (w1.heap.size + 1 + 1) (w1.heap.size + 1 + 1 + 1) w3 (.slice none 0 0) [] 0 128 0 0 [] :=
      ⟨⟨b0, l0, World.ownsRow_nil _ _ _ 12, a0, n0, nofun, by omega, by omega, by omega, by omega⟩, Ch.Log.nil 1 128 (by decide), rfl, rfl, by simp⟩
    have HI := Lib.hid hinit
    generalize w1.heap.size = g at *
    clear hw3 l0 a0 n0 b0 z0 hinit HB1 y0
    go_wp2_with fail
    go_loopw [6, 7, 32] (fun vup vun vk wr => ∃ (k ups undos : Nat) (vl : Value) (q : List Qx) (last at_ : Int) (U : List Rc), vup = .int .i64 ups ∧ vun = .int .i64 undos ∧ vk = .int .i64 k ∧ k ≤ p.length ∧ ups ≤ k ∧ EndsL w g (g + 1) (g + 1 + 1) (g + 1 + 1 + 1) wr vl q last at_ ups undos U) (fun _ _ vk _ => p.length - (intOf vk).toNat)
    case atStart => exact ⟨0, 0, 0, _, _, _, _, _, rfl, rfl, rfl, Nat.zero_le _, Nat.le_refl _, HI.out⟩
    case round =>
      obtain ⟨k, ups, undos, vl, q, last, at_, U, rfl, rfl, rfl, hk, hups, hE⟩ := hrel
      have HE := Lib.hid hE
      have hbig : q.length ≤ 400 := by have := hE.len; have := hE.cnt; omega
      have hat : 0 ≤ at_ ∧ at_ ≤ 1000000 := by have := hE.pos; omega
      have HAT := Lib.hid hat
      clear hE hat
      by_cases hlt : k < p.length
      · have hrd := (HR.out.keep HE.out.mem.below) 
        obtain ⟨a', c', e1, _, hx⟩ := hrd
        simp only [List.length_map, Value.slice.injEq, true_and] at e1
        obtain ⟨rfl, rfl⟩ := e1
        obtain ⟨b, off, rfl, hc⟩ := hx k (.int .u8 (p[k].toNat : Int)) (by simp [hlt])
        have hn : p[k].toNat < 256 := p[k].toNat_lt
        generalize p[k].toNat = n at *
        clear hx
        by_cases hm : (0 : Int) < (n : Int) % 3
        · have hmb : decide ((0 : Int) < (n : Int) % 3) = true := decide_eq_true hm
          clear hm
          go_wp2_with fail
          refine (lawUp 0 wr).mono ?_
          rintro e w4 ⟨rfl, hb⟩
          have HE4 := Lib.hid (HE.out.more hb)
          clear hb HE
          go_wp2_with fail
          refine (putEnds HE4.out.mem (upR 0) ⟨rfl, rfl⟩ (by decide) (by omega) HAT.out).mono ?_
          rintro e w5 ⟨⟨x, rfl⟩, v', hm5, _⟩
          have HE5 := Lib.hid (HE4.out.up hm5)
          clear hm5 HE4
          go_wp2
          exact ⟨⟨k + 1, ups + 1, undos, v', _, _, _, _, by simp, rfl, by simp, hlt, by omega, HE5.out⟩, by simp [intOf]; omega⟩
        · have hmb : decide ((0 : Int) < (n : Int) % 3) = false := decide_eq_false hm
          clear hm
          have c0 := HE.out.mem.lst.cell 0
          have c1 := HE.out.mem.la.cell 0
          simp only [List.getElem?_toArray, List.getElem?_cons_zero] at c0 c1
          go_wp2_with fail
          have C := chUndoAll HE.out.mem.isEnts (by rw [List.length_map]; omega) HE.out.mem.small 1 last 0
          rw [HE.out.log.undoes] at C
          refine C.mono ?_
          clear C c0 c1
          rintro e w4 ⟨u, Bu, rfl, hBu, hu, hb⟩
          have HU := Lib.hid (show RecsE w4 u U from Elems.ofOwn hu)
          have HS := Lib.hid (show Sep g (g + 1) (g + 1 + 1) w4 u vl from fun b hb' => by
            have h1 := hu.lt b hb'
            have h2 := HE.out.mem.z
            refine ⟨h1.2, by omega, by omega, by omega, fun e => ?_⟩
            have h3 := (HE.out.mem.own.lt b e).2
            omega)
          have HE4 := Lib.hid (HE.out.more hb)
          obtain ⟨ua, uc, rfl⟩ := Elems.form HU.out
          have hul := Elems.le HU.out
          have hUl : U.length ≤ ups := by have := HE4.out.cnt; omega
          have hcnt : ((ups : Int) - (undos : Int)) = U.length := by have := HE4.out.cnt; omega
          clear hb hu hBu HE hul
          have hneq : ((U.length : Int) != (U.length : Int)) = false := by simp
          have huc : U.length ≤ uc := by
            obtain ⟨_, _, e, h, _⟩ := HU.out
            simp only [Value.slice.injEq] at e
            obtain ⟨_, _, rfl⟩ := e
            exact h
          obtain ⟨d, hd⟩ : ∃ d : Nat, (n : Int) / 3 % 4 = (d : Int) := ⟨n / 3 % 4, by omega⟩
          by_cases hdU : d ≤ U.length
          · have hdI : (d : Int) ≤ (U.length : Int) := by omega
            have hduc : d ≤ uc := by omega
            go_wp2_with fail
            clear hd
            go_loopw [7, 70] (fun vun vj wq => ∃ (j un : Nat) (vl : Value) (q : List Qx) (last at_ : Int), vun = .int .i64 un ∧ vj = .int .i64 j ∧ j ≤ d ∧ EndsL w g (g + 1) (g + 1 + 1) (g + 1 + 1 + 1) wq vl q last at_ ups un (U.drop j) ∧ RecsE wq (.slice ua U.length uc) U ∧ Sep g (g + 1) (g + 1 + 1) wq (.slice ua U.length uc) vl) (fun _ vj _ => d - (intOf vj).toNat)
            case atStart => exact ⟨0, undos, _, _, _, _, rfl, rfl, Nat.zero_le _, HE4.out, HU.out, HS.out⟩
            case round =>
              obtain ⟨j, un, vq, qq, lq, aq, rfl, rfl, hj, hEq, hUq, hSq⟩ := hrel
              have EQ := Lib.hid hEq
              have UQ := Lib.hid hUq
              have SQ := Lib.hid hSq
              clear hEq hUq hSq
              by_cases hjm : j < d
              · have hjU : j < U.length := by omega
                have HD := Lib.hid (show U.drop j = U[j] :: U.drop (j + 1) from List.drop_eq_getElem_cons hjU)
                have hform := EQ.out.form U[j] (by rw [HD.out]; exact .head _)
                obtain ⟨b2, o2, cc2, e2, _, lt2, da⟩ := RecsE.at_ UQ.out j hjU
                simp only [Value.slice.injEq, true_and] at e2
                obtain ⟨rfl, rfl⟩ := e2
                generalize U[j] = r at *
                have d0 : wr.cell? ⟨b2, o2 + j * 11, none⟩ = some (.int .i64 r.kind) := da 0 _ rfl
                have d1 : wr.cell? ⟨b2, o2 + j * 11 + 1, none⟩ = some (.int .i64 r.txn) := da 1 _ rfl
                have d2 : wr.cell? ⟨b2, o2 + j * 11 + 2, none⟩ = some (.int .i64 r.page) := da 2 _ rfl
                have d3 : wr.cell? ⟨b2, o2 + j * 11 + 3, none⟩ = some (.int .i64 r.off) := da 3 _ rfl
                have d4 : wr.cell? ⟨b2, o2 + j * 11 + 4, none⟩ = some (.int .i64 r.prev) := da 4 _ rfl
                have d5 : wr.cell? ⟨b2, o2 + j * 11 + 5, none⟩ = some (.int .i64 r.next) := da 5 _ rfl
                have d6 : wr.cell? ⟨b2, o2 + j * 11 + 6, none⟩ = some (.int .i64 r.beg) := da 6 _ rfl
                have d7 : wr.cell? ⟨b2, o2 + j * 11 + 7, none⟩ = some (.string r.before) := da 7 _ rfl
                have d8 : wr.cell? ⟨b2, o2 + j * 11 + 8, none⟩ = some (.string r.after) := da 8 _ rfl
                have d9 : wr.cell? ⟨b2, o2 + j * 11 + 9, none⟩ = some (.slice none 0 0) := da 9 _ rfl
                have d10 : wr.cell? ⟨b2, o2 + j * 11 + 10, none⟩ = some (.slice none 0 0) := da 10 _ rfl
                have HFM := Lib.hid hform
                have hub : un ≤ 200 := by have := EQ.out.cnt; omega
                have hqb : qq.length ≤ 900 := by have := EQ.out.len; have := EQ.out.cnt; omega
                have hab : 0 ≤ aq ∧ aq ≤ 1000000 := by have := EQ.out.pos; omega
                have HAB := Lib.hid hab
                clear da hform hab
                go_upto_region 18 with fail
                obtain ⟨X, hX⟩ : ∃ X : Array Value, X = #[.int .i64 r.kind, .int .i64 r.txn, .int .i64 r.page, .int .i64 r.off, .int .i64 r.prev, .int .i64 r.next, .int .i64 r.beg, .string r.before, .string r.after, .slice none 0 0, .slice none 0 0] := ⟨_, rfl⟩
                rw [← hX]
                have xb := Blk.new wr 45 X
                have bx := (Below.refl wr.heap.size wr).alloc (Nat.le_refl _) (.cells X 45)
                have EX := Lib.hid (EQ.out.more bx)
                have UX := Lib.hid (show RecsE _ _ U from Elems.keep UQ.out bx)
                have SX := Lib.hid (show Sep g (g + 1) (g + 1 + 1) _ _ vq from fun b hb => ⟨Nat.lt_of_lt_of_le (SQ.out b hb).1 bx.size, (SQ.out b hb).2⟩)
                generalize hwx : wr.alloc (.cells X 45) = wx at *
                rw [hX] at xb
                have f0 := xb.cell 0
                have f1 := xb.cell 1
                have f2 := xb.cell 2
                have f3 := xb.cell 3
                have f4 := xb.cell 4
                have f5 := xb.cell 5
                have f6 := xb.cell 6
                have f7 := xb.cell 7
                have f8 := xb.cell 8
                have f9 := xb.cell 9
                have f10 := xb.cell 10
                simp only [List.getElem?_toArray, List.getElem?_cons_zero, List.getElem?_cons_succ] at f0 f1 f2 f3 f4 f5 f6 f7 f8 f9 f10
                clear hX xb bx hwx d0 d1 d2 d3 d4 d5 d6 d7 d8 d9 d10 EQ UQ SQ
                go_wp2_with fail
                refine (putEnds EX.out.mem r ⟨HFM.out.1, HFM.out.2.1⟩ HFM.out.2.2.1 hqb HAB.out).mono ?_
                rintro e w5 ⟨⟨x, rfl⟩, v', hm5, hk5⟩
                obtain ⟨hu5, hs5⟩ := hk5 _ _ UX.out SX.out
                have E5 := Lib.hid (EX.out.un HD.out hm5)
                have U5 := Lib.hid hu5
                have S5 := Lib.hid hs5
                clear hm5 hk5 hu5 hs5 EX UX SX f0 f1 f2 f3 f4 f5 f6 f7 f8 f9 f10
                go_wp2
                go_roundw
                case rel => exact ⟨j + 1, un + 1, v', _, _, _, by simp, by simp, hjm, E5.out, U5.out, S5.out⟩
                case measure => simp [intOf]; omega
              · obtain rfl : j = d := by omega
                go_wp2
                exact ⟨⟨k + 1, ups, un, _, _, _, _, _, rfl, rfl, by simp, hlt, by omega, EQ.out⟩, by simp [intOf]; omega⟩
          · have hdI : ¬ (d : Int) ≤ (U.length : Int) := by omega
            go_wp2_with fail
            clear hd
            go_loopw [7, 70] (fun vun vj wq => ∃ (j un : Nat) (vl : Value) (q : List Qx) (last at_ : Int), vun = .int .i64 un ∧ vj = .int .i64 j ∧ j ≤ U.length ∧ EndsL w g (g + 1) (g + 1 + 1) (g + 1 + 1 + 1) wq vl q last at_ ups un (U.drop j) ∧ RecsE wq (.slice ua U.length uc) U ∧ Sep g (g + 1) (g + 1 + 1) wq (.slice ua U.length uc) vl) (fun _ vj _ => U.length - (intOf vj).toNat)
            case atStart => exact ⟨0, undos, _, _, _, _, rfl, rfl, Nat.zero_le _, HE4.out, HU.out, HS.out⟩
            case round =>
              obtain ⟨j, un, vq, qq, lq, aq, rfl, rfl, hj, hEq, hUq, hSq⟩ := hrel
              have EQ := Lib.hid hEq
              have UQ := Lib.hid hUq
              have SQ := Lib.hid hSq
              clear hEq hUq hSq
              by_cases hjm : j < U.length
              · have hjU : j < U.length := by omega
                have HD := Lib.hid (show U.drop j = U[j] :: U.drop (j + 1) from List.drop_eq_getElem_cons hjU)
                have hform := EQ.out.form U[j] (by rw [HD.out]; exact .head _)
                obtain ⟨b2, o2, cc2, e2, _, lt2, da⟩ := RecsE.at_ UQ.out j hjU
                simp only [Value.slice.injEq, true_and] at e2
                obtain ⟨rfl, rfl⟩ := e2
                generalize U[j] = r at *
                have d0 : wr.cell? ⟨b2, o2 + j * 11, none⟩ = some (.int .i64 r.kind) := da 0 _ rfl
                have d1 : wr.cell? ⟨b2, o2 + j * 11 + 1, none⟩ = some (.int .i64 r.txn) := da 1 _ rfl
                have d2 : wr.cell? ⟨b2, o2 + j * 11 + 2, none⟩ = some (.int .i64 r.page) := da 2 _ rfl
                have d3 : wr.cell? ⟨b2, o2 + j * 11 + 3, none⟩ = some (.int .i64 r.off) := da 3 _ rfl
                have d4 : wr.cell? ⟨b2, o2 + j * 11 + 4, none⟩ = some (.int .i64 r.prev) := da 4 _ rfl
                have d5 : wr.cell? ⟨b2, o2 + j * 11 + 5, none⟩ = some (.int .i64 r.next) := da 5 _ rfl
                have d6 : wr.cell? ⟨b2, o2 + j * 11 + 6, none⟩ = some (.int .i64 r.beg) := da 6 _ rfl
                have d7 : wr.cell? ⟨b2, o2 + j * 11 + 7, none⟩ = some (.string r.before) := da 7 _ rfl
                have d8 : wr.cell? ⟨b2, o2 + j * 11 + 8, none⟩ = some (.string r.after) := da 8 _ rfl
                have d9 : wr.cell? ⟨b2, o2 + j * 11 + 9, none⟩ = some (.slice none 0 0) := da 9 _ rfl
                have d10 : wr.cell? ⟨b2, o2 + j * 11 + 10, none⟩ = some (.slice none 0 0) := da 10 _ rfl
                have HFM := Lib.hid hform
                have hub : un ≤ 200 := by have := EQ.out.cnt; omega
                have hqb : qq.length ≤ 900 := by have := EQ.out.len; have := EQ.out.cnt; omega
                have hab : 0 ≤ aq ∧ aq ≤ 1000000 := by have := EQ.out.pos; omega
                have HAB := Lib.hid hab
                clear da hform hab
                go_upto_region 18 with fail
                obtain ⟨X, hX⟩ : ∃ X : Array Value, X = #[.int .i64 r.kind, .int .i64 r.txn, .int .i64 r.page, .int .i64 r.off, .int .i64 r.prev, .int .i64 r.next, .int .i64 r.beg, .string r.before, .string r.after, .slice none 0 0, .slice none 0 0] := ⟨_, rfl⟩
                rw [← hX]
                have xb := Blk.new wr 45 X
                have bx := (Below.refl wr.heap.size wr).alloc (Nat.le_refl _) (.cells X 45)
                have EX := Lib.hid (EQ.out.more bx)
                have UX := Lib.hid (show RecsE _ _ U from Elems.keep UQ.out bx)
                have SX := Lib.hid (show Sep g (g + 1) (g + 1 + 1) _ _ vq from fun b hb => ⟨Nat.lt_of_lt_of_le (SQ.out b hb).1 bx.size, (SQ.out b hb).2⟩)
                generalize hwx : wr.alloc (.cells X 45) = wx at *
                rw [hX] at xb
                have f0 := xb.cell 0
                have f1 := xb.cell 1
                have f2 := xb.cell 2
                have f3 := xb.cell 3
                have f4 := xb.cell 4
                have f5 := xb.cell 5
                have f6 := xb.cell 6
                have f7 := xb.cell 7
                have f8 := xb.cell 8
                have f9 := xb.cell 9
                have f10 := xb.cell 10
                simp only [List.getElem?_toArray, List.getElem?_cons_zero, List.getElem?_cons_succ] at f0 f1 f2 f3 f4 f5 f6 f7 f8 f9 f10
                clear hX xb bx hwx d0 d1 d2 d3 d4 d5 d6 d7 d8 d9 d10 EQ UQ SQ
                go_wp2_with fail
                refine (putEnds EX.out.mem r ⟨HFM.out.1, HFM.out.2.1⟩ HFM.out.2.2.1 hqb HAB.out).mono ?_
                rintro e w5 ⟨⟨x, rfl⟩, v', hm5, hk5⟩
                obtain ⟨hu5, hs5⟩ := hk5 _ _ UX.out SX.out
                have E5 := Lib.hid (EX.out.un HD.out hm5)
                have U5 := Lib.hid hu5
                have S5 := Lib.hid hs5
                clear hm5 hk5 hu5 hs5 EX UX SX f0 f1 f2 f3 f4 f5 f6 f7 f8 f9 f10
                go_wp2
                go_roundw
                case rel => exact ⟨j + 1, un + 1, v', _, _, _, by simp, by simp, hjm, E5.out, U5.out, S5.out⟩
                case measure => simp [intOf]; omega
              · obtain rfl : j = U.length := by omega
                go_wp2
                exact ⟨⟨k + 1, ups, un, _, _, _, _, _, rfl, rfl, by simp, hlt, by omega, EQ.out⟩, by simp [intOf]; omega⟩
      · obtain rfl : k = p.length := by omega
        have c0 := HE.out.mem.lst.cell 0
        have c1 := HE.out.mem.la.cell 0
        simp only [List.getElem?_toArray, List.getElem?_cons_zero] at c0 c1
        go_wp2_with fail
        have C := chUndoAll HE.out.mem.isEnts (by rw [List.length_map]; omega) HE.out.mem.small 1 last 0
        rw [HE.out.log.undoes] at C
        refine C.mono ?_
        clear C c0 c1
        rintro e w4 ⟨u, Bu, rfl, hBu, hu, hb⟩
        have HU := Lib.hid (show RecsE w4 u U from Elems.ofOwn hu)
        have HS := Lib.hid (show Sep g (g + 1) (g + 1 + 1) w4 u vl from fun b hb' => by
          have h1 := hu.lt b hb'
          have h2 := HE.out.mem.z
          refine ⟨h1.2, by omega, by omega, by omega, fun e => ?_⟩
          have h3 := (HE.out.mem.own.lt b e).2
          omega)
        have HE4 := Lib.hid (HE.out.more hb)
        obtain ⟨ua, uc, rfl⟩ := Elems.form HU.out
        have hUl : U.length ≤ ups := by have := HE4.out.cnt; omega
        clear hb hu hBu HE
        go_wp2_with fail
        go_loopw [7, 91] (fun vun vj wq => ∃ (j un : Nat) (vl : Value) (q : List Qx) (last at_ : Int), vun = .int .i64 un ∧ vj = .int .i64 j ∧ j ≤ U.length ∧ EndsL w g (g + 1) (g + 1 + 1) (g + 1 + 1 + 1) wq vl q last at_ ups un (U.drop j) ∧ RecsE wq (.slice ua U.length uc) U ∧ Sep g (g + 1) (g + 1 + 1) wq (.slice ua U.length uc) vl) (fun _ vj _ => U.length - (intOf vj).toNat)
        case atStart => exact ⟨0, undos, _, _, _, _, rfl, rfl, Nat.zero_le _, HE4.out, HU.out, HS.out⟩
        case round =>
          obtain ⟨j, un, vq, qq, lq, aq, rfl, rfl, hj, hEq, hUq, hSq⟩ := hrel
          have EQ := Lib.hid hEq
          have UQ := Lib.hid hUq
          have SQ := Lib.hid hSq
          clear hEq hUq hSq
          by_cases hjm : j < U.length
          · have hjU : j < U.length := by omega
            have HD := Lib.hid (show U.drop j = U[j] :: U.drop (j + 1) from List.drop_eq_getElem_cons hjU)
            have hform := EQ.out.form U[j] (by rw [HD.out]; exact .head _)
            obtain ⟨b2, o2, cc2, e2, _, lt2, da⟩ := RecsE.at_ UQ.out j hjU
            simp only [Value.slice.injEq, true_and] at e2
            obtain ⟨rfl, rfl⟩ := e2
            generalize U[j] = r at *
            have d0 : wr.cell? ⟨b2, o2 + j * 11, none⟩ = some (.int .i64 r.kind) := da 0 _ rfl
            have d1 : wr.cell? ⟨b2, o2 + j * 11 + 1, none⟩ = some (.int .i64 r.txn) := da 1 _ rfl
            have d2 : wr.cell? ⟨b2, o2 + j * 11 + 2, none⟩ = some (.int .i64 r.page) := da 2 _ rfl
            have d3 : wr.cell? ⟨b2, o2 + j * 11 + 3, none⟩ = some (.int .i64 r.off) := da 3 _ rfl
            have d4 : wr.cell? ⟨b2, o2 + j * 11 + 4, none⟩ = some (.int .i64 r.prev) := da 4 _ rfl
            have d5 : wr.cell? ⟨b2, o2 + j * 11 + 5, none⟩ = some (.int .i64 r.next) := da 5 _ rfl
            have d6 : wr.cell? ⟨b2, o2 + j * 11 + 6, none⟩ = some (.int .i64 r.beg) := da 6 _ rfl
            have d7 : wr.cell? ⟨b2, o2 + j * 11 + 7, none⟩ = some (.string r.before) := da 7 _ rfl
            have d8 : wr.cell? ⟨b2, o2 + j * 11 + 8, none⟩ = some (.string r.after) := da 8 _ rfl
            have d9 : wr.cell? ⟨b2, o2 + j * 11 + 9, none⟩ = some (.slice none 0 0) := da 9 _ rfl
            have d10 : wr.cell? ⟨b2, o2 + j * 11 + 10, none⟩ = some (.slice none 0 0) := da 10 _ rfl
            have HFM := Lib.hid hform
            have hub : un ≤ 200 := by have := EQ.out.cnt; omega
            have hqb : qq.length ≤ 900 := by have := EQ.out.len; have := EQ.out.cnt; omega
            have hab : 0 ≤ aq ∧ aq ≤ 1000000 := by have := EQ.out.pos; omega
            have HAB := Lib.hid hab
            clear da hform hab
            go_upto_region 28 with fail
            obtain ⟨X, hX⟩ : ∃ X : Array Value, X = #[.int .i64 r.kind, .int .i64 r.txn, .int .i64 r.page, .int .i64 r.off, .int .i64 r.prev, .int .i64 r.next, .int .i64 r.beg, .string r.before, .string r.after, .slice none 0 0, .slice none 0 0] := ⟨_, rfl⟩
            rw [← hX]
            have xb := Blk.new wr 45 X
            have bx := (Below.refl wr.heap.size wr).alloc (Nat.le_refl _) (.cells X 45)
            have EX := Lib.hid (EQ.out.more bx)
            have UX := Lib.hid (show RecsE _ _ U from Elems.keep UQ.out bx)
            have SX := Lib.hid (show Sep g (g + 1) (g + 1 + 1) _ _ vq from fun b hb => ⟨Nat.lt_of_lt_of_le (SQ.out b hb).1 bx.size, (SQ.out b hb).2⟩)
            generalize hwx : wr.alloc (.cells X 45) = wx at *
            rw [hX] at xb
            have f0 := xb.cell 0
            have f1 := xb.cell 1
            have f2 := xb.cell 2
            have f3 := xb.cell 3
            have f4 := xb.cell 4
            have f5 := xb.cell 5
            have f6 := xb.cell 6
            have f7 := xb.cell 7
            have f8 := xb.cell 8
            have f9 := xb.cell 9
            have f10 := xb.cell 10
            simp only [List.getElem?_toArray, List.getElem?_cons_zero, List.getElem?_cons_succ] at f0 f1 f2 f3 f4 f5 f6 f7 f8 f9 f10
            clear hX xb bx hwx d0 d1 d2 d3 d4 d5 d6 d7 d8 d9 d10 EQ UQ SQ
            go_wp2_with fail
            refine (putEnds EX.out.mem r ⟨HFM.out.1, HFM.out.2.1⟩ HFM.out.2.2.1 hqb HAB.out).mono ?_
            rintro e w5 ⟨⟨x, rfl⟩, v', hm5, hk5⟩
            obtain ⟨hu5, hs5⟩ := hk5 _ _ UX.out SX.out
            have E5 := Lib.hid (EX.out.un HD.out hm5)
            have U5 := Lib.hid hu5
            have S5 := Lib.hid hs5
            clear hm5 hk5 hu5 hs5 EX UX SX f0 f1 f2 f3 f4 f5 f6 f7 f8 f9 f10
            go_wp2
            go_roundw
            case rel => exact ⟨j + 1, un + 1, v', _, _, _, by simp, by simp, hjm, E5.out, U5.out, S5.out⟩
            case measure => simp [intOf]; omega
          · obtain rfl : j = U.length := by omega
            have hnil : Ch.Log (qq.map Qx.ent) 1 lq aq [] := by have := EQ.out.log; rwa [List.drop_length] at this
            have hst := hnil.done
            have c0 := EQ.out.mem.lst.cell 0
            have c1 := EQ.out.mem.la.cell 0
            simp only [List.getElem?_toArray, List.getElem?_cons_zero] at c0 c1
            have hub : un ≤ ups := by have := EQ.out.cnt; omega
            have hqb : qq.length ≤ 900 := by have := EQ.out.len; omega
            have HST := Lib.hid hst
            clear hnil hst
            go_wp2_with fail
            have C := chLeft EQ.out.mem.isEnts (by rw [List.length_map]; omega) 1 lq
            rw [HST.out] at C
            refine C.mono ?_
            clear C
            rintro e w6 ⟨rfl, hb⟩
            have HB6 := Lib.hid (EQ.out.mem.below.trans (hb.mono EQ.out.mem.below.size))
            have hle : decide ((un : Int) ≤ (ups : Int)) = true := by rw [decide_eq_true_eq]; omega
            clear hb
            go_wp2
            go_ret
            exact ⟨rfl, HB6.out⟩
  · go_enter Try.func4, Try.ntmps4
    go_wp2_with fail
    refine AW.out.mono ?_
    rintro e w1 ⟨rfl, hb⟩
    have HB1 := Lib.hid hb
    clear hb AW
    go_wp2_with fail
    refine (awake11 w1).mono ?_
    rintro e w2 ⟨rfl, hb⟩
    have HB2 := Lib.hid (below2 HB1.out hb)
    clear hb
    go_wp2
    go_ret
    exact ⟨rfl, HB2.out⟩
end Go.Proofs.Ytecalnglidjmgaa
