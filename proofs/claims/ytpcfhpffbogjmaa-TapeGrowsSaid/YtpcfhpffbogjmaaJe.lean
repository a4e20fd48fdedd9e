/- Texts that belong together, joined: WalK, WlE, WlH, WlI, TpA, WalL, WalM, WalN. -/
import Derived.Test.YtpcfhpffbogjmaaJd
import Derived.Test.YtpcfhpffbogjmaaJb
import Derived.Test.YtpcfhpffbogjmaaRecM2
import Derived.Test.YtpcfhpffbogjmaaOpenRecs
import Derived.Deep.DeepCutAuto
/- Package wal: any Append; a disk and a log that were made since a world. -/
namespace Go.Proofs.Ytpcfhpffbogjmaa
open Go.RowKit

/-- What an Append comes to: the record's place, its error, the log behind it. -/
noncomputable def Wl.app (l : Wl) (r : Rc) : Nat × Nat × Wl := open Classical in if May r then (l.putAt r, l.putE r, l.put r) else (0, 1, l)
theorem Wl.app_may {l : Wl} {r : Rc} (h : May r) : l.app r = (l.putAt r, l.putE r, l.put r) := by unfold Wl.app; rw [if_pos h]
theorem Wl.app_not {l : Wl} {r : Rc} (h : ¬ May r) : l.app r = (0, 1, l) := by unfold Wl.app; rw [if_neg h]
theorem append_may {w : World} {F : Foot} {g gd : Nat} {l : Wl} {v : Value} {r : Rc} (h : IsLog w F g gd l) (hv : IsRec w v r) (hm : May r) :
    Calls Try.prog 16 #[.pointer (some ⟨g, 0, none⟩), v] w (AppOut w F g gd (l.putAt r) (l.putE r) (l.put r)) := by
  unfold Wl.putE
  by_cases hj : l.joins r
  · rw [if_pos hj]; exact append_join h hv hm hj
  · rw [if_neg hj]
    by_cases hr : l.secs.length < l.size
    · rw [if_pos hr]
      by_cases hne : l.end_ = l.first
      · exact append_new1 h hv hm hj hne hr
      · exact append_new2 h hv hm hj hne hr
    · rw [if_neg hr]
      by_cases hne : l.end_ = l.first
      · exact append_full1 h hv hm hj hne hr
      · exact append_full2 h hv hm hj hne hr
theorem append_any {w : World} {F : Foot} {g gd : Nat} {l : Wl} {v : Value} {r : Rc} (h : IsLog w F g gd l) (hv : IsRec w v r) (hf : Fit r) :
    Calls Try.prog 16 #[.pointer (some ⟨g, 0, none⟩), v] w (AppOut w F g gd (l.app r).1 (l.app r).2.1 (l.app r).2.2) := by
  by_cases hm : May r
  · rw [Wl.app_may hm]; exact append_may h hv hm
  · rw [Wl.app_not hm]; exact append_bad h hv hf hm

/-- A disk and a log that were made since w0. -/
structure LiveL (w0 w : World) (FD FL : Foot) (g gd : Nat) (D : Dk) (l : Wl) : Prop where
  sys : Sys w FD FL g gd D l
  newD : ∀ b, FD b → w0.heap.size ≤ b
  newL : ∀ b, FL b → w0.heap.size ≤ b
  below : Below w0.heap.size w0 w
namespace LiveL
variable {w0 w w' : World} {FD FL FD' FL' : Foot} {g gd : Nat} {D D' : Dk} {l l' : Wl}
theorem new (h : LiveL w0 w FD FL g gd D l) : ∀ b, Both FD FL b → w0.heap.size ≤ b := fun b hb => hb.elim (h.newD b) (h.newL b)
theorem more (h : LiveL w0 w FD FL g gd D l) (hb : Below w.heap.size w w') : LiveL w0 w' FD FL g gd D l := ⟨h.sys.more hb, h.newD, h.newL, h.below.trans (hb.mono h.below.size)⟩
theorem step (h : LiveL w0 w FD FL g gd D l) (hs : Sys w' FD' FL' g gd D' l') (st : Step (Both FD FL) (Both FD' FL') w w') : LiveL w0 w' FD' FL' g gd D' l' :=
  ⟨hs, fun b hb => st.from_ h.new h.below.size b (.inl hb), fun b hb => st.from_ h.new h.below.size b (.inr hb), st.belowB h.new h.below h.below.size⟩
theorem only (h : LiveL w0 w FD FL g gd D l) {S : Nat → Prop} (hb : Only S w w') (hS : ∀ b, Both FD FL b → ¬ S b) (hn : ∀ b, S b → w0.heap.size ≤ b) : LiveL w0 w' FD FL g gd D l :=
  ⟨⟨h.sys.disk.keep (fun b hF => hb.block b (h.sys.disk.lt b hF) (hS b (.inl hF))) hb.size, h.sys.log.only hb fun b hF => hS b (.inr hF), h.sys.apart⟩, h.newD, h.newL, hb.below h.below h.below.size hn⟩
theorem append {v : Value} {r : Rc} (h : LiveL w0 w FD FL g gd D l) (hv : IsRec w v r) (hf : Fit r) :
    Calls Try.prog 16 #[.pointer (some ⟨g, 0, none⟩), v] w fun e w' => e = .returned (.tuple #[.int .i64 (l.app r).1, .int .i64 (l.app r).2.1]) ∧ ∃ FL', LiveL w0 w' FD FL' g gd D (l.app r).2.2 ∧ Step (Both FD FL) (Both FD FL') w w' :=
  (append_any h.sys.log hv hf).mono fun _ _ ⟨he, F', hl, hs⟩ => ⟨he, F', h.step (h.sys.onLog hl hs).1 (h.sys.onLog hl hs).2, (h.sys.onLog hl hs).2⟩
theorem flush (h : LiveL w0 w FD FL g gd D l) (hep : l.epoch < 4294967296) (hw : D.waits.length ≤ 1000000) :
    Calls Try.prog 17 #[.pointer (some ⟨g, 0, none⟩)] w fun e w' => e = .returned (.int .i64 (l.flush D).2.2) ∧ ∃ FD', LiveL w0 w' FD' FL g gd (l.flush D).1 (l.flush D).2.1 ∧ Step (Both FD FL) (Both FD' FL) w w' :=
  (flush_any h.sys hep hw).mono fun _ _ ⟨he, FD', hs, st⟩ => ⟨he, FD', h.step hs st, st⟩
theorem make {gd : Nat} (h : IsDisk w FD gd D) (hn : ∀ b, FD b → w0.heap.size ≤ b) (hb0 : Below w0.heap.size w0 w) (base n : Nat) (h8 : 8 ≤ n) (h64 : n ≤ 64) (hb : base + n ≤ D.safe.length) :
    Calls Try.prog 14 #[.pointer (some ⟨gd, 0, none⟩), .int .i64 base, .int .i64 n] w fun e w' => ∃ g F, e = .returned (.tuple #[.pointer (some ⟨g, 0, none⟩), .int .i64 0]) ∧ LiveL w0 w' FD F g gd D (Wl.new base n) :=
  (logNew_ok h base n h8 h64 hb).mono fun _ _ ⟨g, he, hl, hg, hbel⟩ => ⟨g, _, he, ⟨h.below hbel, hl, fun b hb e => by subst e; have := h.lt b hb; omega⟩, hn, fun b e => by subst e; exact Nat.le_trans hb0.size hg, hb0.trans (hbel.mono hb0.size)⟩
theorem appendAs {v : Value} {r : Rc} (h : LiveL w0 w FD FL g gd D l) (hv : IsRec w v r) (hf : Fit r) {a er : Nat} {l' : Wl} (ha : l.app r = (a, er, l')) (x y : Int) (hx : (a : Int) = x) (hy : (er : Int) = y) :
    Calls Try.prog 16 #[.pointer (some ⟨g, 0, none⟩), v] w fun e w' => e = .returned (.tuple #[.int .i64 x, .int .i64 y]) ∧ ∃ FL', LiveL w0 w' FD FL' g gd D l' ∧ Step (Both FD FL) (Both FD FL') w w' := by
  have := h.append hv hf
  rw [ha] at this
  subst hx hy
  exact this
theorem flushAs (h : LiveL w0 w FD FL g gd D l) (hep : l.epoch < 4294967296) (hw : D.waits.length ≤ 1000000) {D' : Dk} {l' : Wl} (hD : (l.flush D).1 = D') (hl : (l.flush D).2.1 = l') (y : Int) (hy : ((l.flush D).2.2 : Int) = y) :
    Calls Try.prog 17 #[.pointer (some ⟨g, 0, none⟩)] w fun e w' => e = .returned (.int .i64 y) ∧ ∃ FD', LiveL w0 w' FD' FL g gd D' l' ∧ Step (Both FD FL) (Both FD' FL) w w' := by
  subst hD hl hy
  exact h.flush hep hw
end LiveL
end Go.Proofs.Ytpcfhpffbogjmaa

/- A log and its disk between calls; what an Append adds; plain mathematics. -/
namespace Go.Proofs.Ytpcfhpffbogjmaa
open Go.RowKit

/-- A log at the sectors from 0 on of a disk with n sectors, with power, and no fuse. -/
structure Calm (D : Dk) (l : Wl) (n E : Nat) : Prop where
  ok : l.Ok
  stands : Stands D l
  fuse : D.fuse = none
  ep : l.epoch ≤ E
  base : l.base = 0
  size : l.size = n
  len : D.safe.length = n
namespace Calm
variable {D : Dk} {l : Wl} {n E : Nat}
theorem new (h8 : 8 ≤ n) (h64 : n ≤ 64) : Calm (Dk.new n) (Wl.new 0 n) n 1 :=
  ⟨Wl.Ok.new h8 h64 (by omega), Stands.new (by omega), rfl, Nat.le_refl _, rfl, rfl, by simp [Dk.new]⟩
theorem put (h : Calm D l n E) {r : Rc} (hm : May r) : Calm D (l.put r) n E := by
  have hs : (l.put r).base = l.base ∧ (l.put r).size = l.size ∧ (l.put r).epoch = l.epoch := by
    unfold Wl.put; split
    · exact ⟨rfl, rfl, rfl⟩
    · split <;> exact ⟨rfl, rfl, rfl⟩
  exact ⟨h.ok.put hm (lay_short hm), h.stands.put h.ok r, h.fuse, by rw [hs.2.2]; exact h.ep, by rw [hs.1]; exact h.base, by rw [hs.2.1]; exact h.size, h.len⟩
theorem app (h : Calm D l n E) (r : Rc) : Calm D (l.app r).2.2 n E := by
  by_cases hm : May r
  · rw [Wl.app_may hm]; exact h.put hm
  · rw [Wl.app_not hm]; exact h
theorem hep (h : Calm D l n E) (hE : E < 4294967296) : l.epoch < 4294967296 := Nat.lt_of_le_of_lt h.ep hE
theorem hw (h : Calm D l n E) : D.waits.length ≤ 1000000 := by rw [h.stands.waits]; exact Nat.zero_le _
theorem err (h : Calm D l n E) : (l.flush D).2.2 = 0 := h.stands.flush_ok h.ok h.fuse
theorem log (h : Calm D l n E) (hE : E < 4294967296) : (l.flush D).2.1 = { l with first := l.end_ } := (h.stands.flushed h.ok (h.hep hE) h.err).1
theorem flush (h : Calm D l n E) (hE : E < 4294967296) : Calm (l.flush D).1 (l.flush D).2.1 n E := by
  obtain ⟨h1, h2, h3, h4⟩ := h.stands.flushed h.ok (h.hep hE) h.err
  rw [h1]
  exact ⟨h.ok.flushed, h2, h3 h.fuse, h.ep, h.base, h.size, by rw [h4]; exact h.len⟩
end Calm
/-- A record that was taken. -/
theorem Wl.app_zero {l : Wl} {r : Rc} (h : (l.app r).2.1 = 0) : May r ∧ l.putE r = 0 ∧ (l.app r).1 = l.putAt r ∧ (l.app r).2.2 = l.put r := by
  by_cases hm : May r
  · rw [Wl.app_may hm] at h ⊢; exact ⟨hm, h, rfl, rfl⟩
  · rw [Wl.app_not hm] at h; cases h
/-- One that wasn't. -/
theorem Wl.app_same {l : Wl} {r : Rc} (h : (l.app r).2.1 ≠ 0) : (l.app r).2.2 = l := by
  by_cases hm : May r
  · rw [Wl.app_may hm] at h ⊢
    have h : l.putE r ≠ 0 := h
    show l.put r = l
    unfold Wl.putE at h
    unfold Wl.put
    split
    · rename_i hj; rw [if_pos hj] at h; exact absurd rfl h
    · rename_i hj
      rw [if_neg hj] at h
      split
      · rename_i hr; rw [if_pos hr] at h; exact absurd rfl h
      · rfl
  · rw [Wl.app_not hm]
/-- Where a record goes: in which sector, behind which ones. -/
theorem Wl.put_where {l : Wl} (ok : l.Ok) {r : Rc} (h : l.putE r = 0) : ∃ (s : Nat) (rs : List Rc), l.putAt r = s * 128 + (body rs).length ∧ (body rs).length ≤ 112 ∧ (∀ q ∈ rs, May q) ∧ l.low ≤ s ∧ l.first ≤ s ∧ s + 1 = (l.put r).end_ ∧
    (l.put r).low = l.low ∧ (l.put r).first = l.first ∧ (l.put r).secs.getD (s - l.low) [] = rs ++ [r] ∧ l.all = Wl.allFrom l.low (l.secs.take (s - l.low)) ++ entsOf ((s * 128 : Nat) : Int) rs ∧ s - l.low ≤ l.secs.length := by
  unfold Wl.putE at h
  unfold Wl.putAt Wl.put
  have hfl := ok.fl
  have hfe := ok.fe
  by_cases hj : l.joins r
  · rw [if_pos hj, if_pos hj]
    have hlt : 0 < l.secs.length := by have := hj.1; unfold Wl.end_ at *; omega
    obtain ⟨i, x, e⟩ := Wl.snoc_of hlt
    have hx := ok.sec x (by rw [e]; simp)
    have hf := hj.1
    unfold Wl.end_ at hf
    have hlen : l.secs.length = i.length + 1 := by rw [e]; simp
    refine ⟨l.low + i.length, x, ?_, hx.2.2, hx.2.1, by omega, by omega, ?_, rfl, rfl, ?_, ?_, ?_⟩
    · unfold Wl.end_; rw [hlen, e, Wl.lastD_snoc]; rfl
    · unfold Wl.end_; simp only [e, List.dropLast_concat, Wl.lastD_snoc, List.length_append, List.length_singleton]; omega
    · rw [Nat.add_sub_cancel_left]; simp only [e, List.dropLast_concat, Wl.lastD_snoc]; simp [List.getD_eq_getElem?_getD]
    · unfold Wl.all
      rw [Nat.add_sub_cancel_left, e, List.take_left, Wl.allFrom_app]
      simp [Wl.allFrom]
    · omega
  · rw [if_neg hj] at h ⊢
    rw [if_neg hj]
    by_cases hr : l.secs.length < l.size
    · rw [if_pos hr, if_pos hr]
      unfold Wl.end_ at hfe
      refine ⟨l.low + l.secs.length, [], ?_, by simp [body], fun q hq => by simp at hq, by omega, by omega, ?_, rfl, rfl, ?_, ?_, by omega⟩
      · unfold Wl.end_; simp [body]
      · unfold Wl.end_; simp; omega
      · rw [Nat.add_sub_cancel_left]; simp [List.getD_eq_getElem?_getD]
      · unfold Wl.all
        rw [Nat.add_sub_cancel_left, List.take_length]
        simp [entsOf]
    · rw [if_neg hr] at h; cases h
theorem Wl.allFrom_lt : ∀ (k : Nat) (s : List (List Rc)), (∀ rs ∈ s, (∀ r ∈ rs, May r) ∧ (body rs).length ≤ 112) → ∀ x ∈ Wl.allFrom k s, x.1 < (((k + s.length) * 128 : Nat) : Int)
  | _, [], _, x, h => by simp [Wl.allFrom] at h
  | k, rs :: s, hs, x, h => by
    rcases List.mem_append.1 h with h | h
    · have := entsOf_ge _ rs (hs rs (by simp)).1 x h
      have h2 := (hs rs (by simp)).2
      unfold body at h2
      simp only [List.length_cons]
      omega
    · have := Wl.allFrom_lt (k + 1) s (fun q hq => hs q (by simp [hq])) x h
      simp only [List.length_cons]
      omega
/-- A new record lies behind all others. -/
theorem Wl.put_gt {l : Wl} (ok : l.Ok) {r : Rc} (h : l.putE r = 0) : (∀ x ∈ l.all, x.1 < (l.putAt r : Int)) ∧ 128 ≤ l.putAt r ∧ l.putAt r ≤ 1099511627776 := by
  obtain ⟨s, rs, e1, e2, e3, e4, e5, e6, _, _, _, e7, e8⟩ := Wl.put_where ok h
  have hl := ok.l1
  refine ⟨fun x hx => ?_, by omega, ?_⟩
  · rw [e7] at hx
    rcases List.mem_append.1 hx with hx | hx
    · have := Wl.allFrom_lt l.low (l.secs.take (s - l.low)) (fun q hq => (ok.sec q (List.mem_of_mem_take hq)).2) x hx
      rw [List.length_take] at this
      omega
    · have := entsOf_ge _ rs e3 x hx
      unfold body at e1
      omega
  · have hlm := ok.lm
    have hlen := ok.len
    have h64 := ok.s64
    omega
/-- What was appended is read at its place. -/
theorem Wl.put_read {l : Wl} (ok : l.Ok) {r : Rc} (h : l.putE r = 0) : (l.put r).readAt (l.putAt r : Int) = (r, 0) := by
  obtain ⟨s, rs, e1, e2, e3, e4, e5, e6, f1, f2, f3, e7, e8⟩ := Wl.put_where ok h
  have hdiv : ((l.putAt r : Nat) : Int).tdiv 128 = (s : Int) := by
    rw [Int.tdiv_eq_ediv_of_nonneg (by omega)]
    omega
  have hent : (l.put r).entries (s : Int) = entsOf (((s : Nat) : Int) * 128) rs ++ [((l.putAt r : Int), r)] := by
    unfold Wl.entries
    rw [if_pos (by rw [f1]; omega), f1, Int.toNat_natCast, f3, entsOf_snoc]
    congr 3
    unfold body at e1
    omega
  unfold Wl.readAt
  rw [hdiv, hent, List.find?_append]
  have hn : (entsOf (((s : Nat) : Int) * 128) rs).find? (fun x => x.1 == (l.putAt r : Int)) = none := List.find?_eq_none.2 fun x hx => by
    have := entsOf_ge _ rs e3 x hx
    unfold body at e1
    simp only [beq_iff_eq]
    omega
  rw [hn]
  simp
/-- What a scan from a place on has more. -/
theorem Wl.put_scan {l : Wl} (ok : l.Ok) {r : Rc} (h : l.putE r = 0) (f : Int) : (l.put r).scan f = l.scan f ++ if f ≤ (l.putAt r : Int) then [((l.putAt r : Int), r)] else [] := by
  unfold Wl.scan
  rw [Wl.putAll h ok.fl, List.filter_append]
  congr 1
  by_cases hc : f ≤ (l.putAt r : Int)
  · rw [if_pos hc, List.filter_cons_of_pos (by simpa using hc)]; rfl
  · rw [if_neg hc, List.filter_cons_of_neg (by simpa using hc)]; rfl
end Go.Proofs.Ytpcfhpffbogjmaa

/- A log with any low, behind flushes and crashes, and cut: what its disk has then, and what is opened of it; plain mathematics. (WlC and WlD speak of logs whose low is 1.) -/
namespace Go.Proofs.Ytpcfhpffbogjmaa
open Go.RowKit

/-- Slabs that don't count from the number k on: older ones, or of another number. -/
def StaleL (E : Nat) : Nat → List Slab3 → Prop
  | _, [] => True
  | k, x :: T => (x.1 < E ∨ x.2.1 ≠ k) ∧ StaleL E (k + 1) T
theorem staleL_of {E : Nat} : ∀ {k : Nat} {T : List Slab3}, (∀ i, ∀ (h : i < T.length), T[i].1 < E ∨ T[i].2.1 ≠ k + i) → StaleL E k T
  | _, [], _ => trivial
  | k, x :: T, h => ⟨h 0 (by simp), staleL_of fun i hi => by
    have := h (i + 1) (by simpa using hi)
    simp only [List.getElem_cons_succ] at this
    rw [show k + 1 + i = k + (i + 1) by omega]
    exact this⟩
theorem staleL_at {E : Nat} : ∀ {k : Nat} {T : List Slab3}, StaleL E k T → ∀ i, ∀ (h : i < T.length), T[i].1 < E ∨ T[i].2.1 ≠ k + i
  | _, [], _, i, h => by simp at h
  | k, x :: T, hs, 0, _ => hs.1
  | k, x :: T, hs, i + 1, h => by
    have := staleL_at hs.2 i (by simpa using h)
    simp only [List.getElem_cons_succ]
    rw [show k + (i + 1) = k + 1 + i by omega]
    exact this
theorem staleL_drop {E : Nat} : ∀ {m k : Nat} {T : List Slab3}, StaleL E k T → StaleL E (k + m) (T.drop m)
  | 0, _, _, h => h
  | m + 1, _, [], _ => by rw [List.drop_nil]; trivial
  | m + 1, k, x :: T, h => by
    rw [List.drop_succ_cons, show k + (m + 1) = k + 1 + m by omega]
    exact staleL_drop h.2
theorem stale_none {E : Nat} {k : Nat} {T : List Slab3} (h : StaleL E k T) : wholeP E k T = [] := by
  cases T with
  | nil => rfl
  | cons x T =>
    refine wholeP_stop fun hc => ?_
    rcases h.1 with g | g
    · have := hc.2.2.2; omega
    · exact g hc.1
theorem mixL_whole {E : Nat} {full : Prop} : ∀ (k a : Nat) (bs : List ByteArray) (T T' : List Slab3), Mix E full k bs T T' → a ≤ E → StaleL E k T → wholeP a k T = [] → (∀ b ∈ bs, b.size ≠ 0 ∧ (allS b).isSome = true) →
    ∃ r, r ≤ bs.length ∧ (full → r = bs.length) ∧ wholeP a k T' = bs.take r
  | k, a, [], T, T', h, _, _, h3, _ => ⟨0, Nat.le_refl _, fun _ => rfl, by rw [show T' = T from h, h3]; rfl⟩
  | k, a, b :: bs, [], _, h, _, _, _, _ => by simp [Mix] at h
  | k, a, b :: bs, x :: T, [], h, _, _, _, _ => by simp [Mix] at h
  | k, a, b :: bs, x :: T, y :: T', h, h1, h2, h3, h4 => by
    obtain ⟨hy, hm⟩ := h
    rcases hy with rfl | ⟨hf, rfl | rfl⟩
    · have hb := h4 b (by simp)
      obtain ⟨r, r1, r2, r3⟩ := mixL_whole (k + 1) E bs T T' hm (Nat.le_refl _) h2.2 (stale_none h2.2) fun b' hb' => h4 b' (by simp [hb'])
      refine ⟨r + 1, by simpa using r1, fun hf => by simpa using r2 hf, ?_⟩
      rw [wholeP_go (x := (E, k, b)) rfl hb.1 hb.2 h1, List.take_succ_cons, ← r3]
    · refine ⟨0, Nat.zero_le _, fun h => absurd h hf, ?_⟩
      have : ¬ (y.2.1 = k ∧ y.2.2.size ≠ 0 ∧ (allS y.2.2).isSome = true ∧ a ≤ y.1) := fun hc => by
        rw [wholeP_go hc.1 hc.2.1 hc.2.2.1 hc.2.2.2] at h3
        cases h3
      rw [wholeP_stop this]
      rfl
    · refine ⟨0, Nat.zero_le _, fun h => absurd h hf, ?_⟩
      rw [wholeP_stop fun hc => hc.2.1 rfl]
      rfl
theorem mixL_le {E : Nat} {full : Prop} : ∀ (k : Nat) (bs : List ByteArray) (T T' : List Slab3), Mix E full k bs T T' → (∀ x ∈ T, x.1 ≤ E) → ∀ y ∈ T', y.1 ≤ E
  | k, [], T, T', h, h2, y, hy => by rw [show T' = T from h] at hy; exact h2 y hy
  | k, b :: bs, [], _, h, _, _, _ => by simp [Mix] at h
  | k, b :: bs, x :: T, [], h, _, _, _ => by simp [Mix] at h
  | k, b :: bs, x :: T, z :: T', h, h2, y, hy => by
    obtain ⟨hz, hm⟩ := h
    rcases List.mem_cons.1 hy with rfl | hy
    · rcases hz with rfl | ⟨_, rfl | rfl⟩
      · exact Nat.le_refl _
      · exact h2 y (by simp)
      · exact Nat.zero_le _
    · exact mixL_le (k + 1) bs T T' hm (fun x hx => h2 x (by simp [hx])) y hy
theorem mixL_stale {E : Nat} {full : Prop} : ∀ (k : Nat) (bs : List ByteArray) (T T' : List Slab3), Mix E full k bs T T' → StaleL E k T → StaleL E (k + bs.length) (T'.drop bs.length)
  | k, [], T, T', h, h2 => by rw [show T' = T from h]; exact h2
  | k, b :: bs, [], _, h, _ => by simp [Mix] at h
  | k, b :: bs, x :: T, [], h, _ => by simp [Mix] at h
  | k, b :: bs, x :: T, z :: T', h, h2 => by
    rw [List.length_cons, List.drop_succ_cons, show k + (bs.length + 1) = k + 1 + bs.length by omega]
    exact mixL_stale (k + 1) bs T T' h.2 h2.2

/-- The ring from a number on, as it lies in sectors that are safe. -/
noncomputable def ringL (s : List ByteArray) (base n lo : Nat) : List Slab3 := (List.range n).map fun i => sec3 s base n (lo + i)
theorem ringL_len (s : List ByteArray) (base n lo : Nat) : (ringL s base n lo).length = n := by simp [ringL]
theorem ringL_at {s : List ByteArray} {base n lo i : Nat} (h : i < (ringL s base n lo).length) : (ringL s base n lo)[i] = sec3 s base n (lo + i) := by simp [ringL]
theorem ringOf_L {D : Dk} (hw : D.waits = []) (base n lo : Nat) : ringOf (Wl.head base n lo) D n = ringL D.safe base n lo := by
  unfold ringOf ringL sec3
  refine List.map_congr_left fun i _ => ?_
  unfold Dk.at_ Wl.place Wl.head Wl.new
  rw [hw, lastOf_nil]
  simp only [Option.getD_none]
  rfl
theorem window {n lo q q' : Nat} (h1 : lo ≤ q) (h2 : q < lo + n) (h1' : lo ≤ q') (h2' : q' < lo + n) (h : q % n = q' % n) : q = q' := by
  have hn : 0 < n := by omega
  have e1 := Nat.div_add_mod q n
  have e2 := Nat.div_add_mod q' n
  rw [h] at e1
  have hd : q / n = q' / n := by
    rcases Nat.lt_trichotomy (q / n) (q' / n) with g | g | g
    · have : n * (q / n) + n ≤ n * (q' / n) := by
        have := Nat.mul_le_mul_left n (show q / n + 1 ≤ q' / n from g)
        rwa [Nat.mul_add, Nat.mul_one] at this
      omega
    · exact g
    · have : n * (q' / n) + n ≤ n * (q / n) := by
        have := Nat.mul_le_mul_left n (show q' / n + 1 ≤ q / n from g)
        rwa [Nat.mul_add, Nat.mul_one] at this
      omega
  rw [hd] at e1
  omega
/-- What is settled: sector by sector. -/
theorem settle_secL (l : Wl) (lo f j : Nat) (ft : Nat → Nat) (s : List ByteArray) (hs : l.base + l.size ≤ s.length) (hf : lo ≤ f) (hj : f + j ≤ lo + l.size) (q : Nat) (h1 : lo ≤ q) (h2 : q < lo + l.size) : ∀ k, k ≤ j →
    (settleTo ft (l.pairs f j) s k).getD (l.base + q % l.size) zero128 = if f ≤ q ∧ q < f + k then (if ft (q - f) = 1 then l.sector q else if ft (q - f) = 2 then zero128 else s.getD (l.base + q % l.size) zero128) else s.getD (l.base + q % l.size) zero128
  | 0, _ => by rw [if_neg (by omega)]; rfl
  | k + 1, hk => by
    have hlen : (l.pairs f j).length = j := by simp [Wl.pairs]
    have hget : (l.pairs f j)[k]'(by omega) = (l.place (f + k), l.sector (f + k)) := by simp [Wl.pairs]
    have ih := settle_secL l lo f j ft s hs hf hj q h1 h2 k (by omega)
    have hpq : l.base + q % l.size < (settleTo ft (l.pairs f j) s k).length := by rw [settleTo_len]; have := Nat.mod_lt q (show 0 < l.size by omega); omega
    rw [settleTo_succ _ _ _ _ (by omega), hget]
    by_cases hq : q = f + k
    · subst hq
      rw [if_neg (by omega)] at ih
      rw [if_pos (by omega), Nat.add_sub_cancel_left]
      unfold settleOne Wl.place
      by_cases t1 : ft k = 1
      · rw [if_pos t1, if_pos t1, List.getD_eq_getElem?_getD, List.getElem?_set_self hpq]; rfl
      · rw [if_neg t1, if_neg t1]
        by_cases t2 : ft k = 2
        · rw [if_pos t2, if_pos t2, List.getD_eq_getElem?_getD, List.getElem?_set_self hpq]; rfl
        · rw [if_neg t2, if_neg t2, ih]
    · have hne : l.place (f + k) ≠ l.base + q % l.size := fun e => hq (window h1 h2 (by omega) (by omega) (Nat.add_left_cancel (show l.base + q % l.size = l.base + (f + k) % l.size from e.symm)))
      have hset : ∀ x, ((settleTo ft (l.pairs f j) s k).set (l.place (f + k)) x).getD (l.base + q % l.size) zero128 = (settleTo ft (l.pairs f j) s k).getD (l.base + q % l.size) zero128 := fun x => by
        rw [List.getD_eq_getElem?_getD, List.getElem?_set_ne hne, ← List.getD_eq_getElem?_getD]
      have : (settleOne (ft k) (l.place (f + k), l.sector (f + k)) (settleTo ft (l.pairs f j) s k)).getD (l.base + q % l.size) zero128 = (settleTo ft (l.pairs f j) s k).getD (l.base + q % l.size) zero128 := by
        unfold settleOne
        split
        · exact hset _
        · split
          · exact hset _
          · rfl
      rw [this, ih]
      by_cases hin : f ≤ q ∧ q < f + k
      · have hin2 : f ≤ q ∧ q < f + (k + 1) := by omega
        rw [if_pos hin, if_pos hin2]
      · have hin2 : ¬ (f ≤ q ∧ q < f + (k + 1)) := by omega
        rw [if_neg hin, if_neg hin2]

/-- The disk has what the log says is safe, and nothing newer that counts. -/
structure StandsL (D : Dk) (l : Wl) : Prop where
  room : l.base + l.size ≤ D.safe.length
  waits : D.waits = []
  gone : D.gone = false
  whole : wholeP 0 l.low (ringL D.safe l.base l.size l.low) = (l.secs.take (l.first - l.low)).map bodyS
  le : ∀ x ∈ ringL D.safe l.base l.size l.low, x.1 ≤ l.epoch
  stale : StaleL l.epoch l.first ((ringL D.safe l.base l.size l.low).drop (l.first - l.low))
theorem stale_lt {E : Nat} {k : Nat} {T : List Slab3} (h : ∀ x ∈ T, x.1 < E) : StaleL E k T := staleL_of fun _ hi => .inl (h _ (List.getElem_mem hi))
namespace StandsL
variable {D : Dk} {l : Wl}
theorem arm (h : StandsL D l) (k : Int) : StandsL (D.arm k) l := ⟨h.room, h.waits, h.gone, h.whole, h.le, h.stale⟩
theorem opened {D : Dk} {base n lo : Nat} (hr : base + n ≤ D.safe.length) (hw : D.waits = []) (hg : D.gone = false) : StandsL D (Wl.opened D base n lo) := by
  have hb := Wl.opened_bodies D base n lo
  rw [ringOf_L hw] at hb
  have hlen : (Wl.opened D base n lo).secs.length = (Wl.opened D base n lo).first - lo := by
    unfold Wl.opened; simp
  have hgt : ∀ x ∈ ringL D.safe base n lo, x.1 < (Wl.opened D base n lo).epoch := fun x hx => by
    show x.1 < epochOf _
    rw [ringOf_L hw]
    exact epochOf_gt hx
  refine ⟨hr, hw, hg, ?_, fun x hx => Nat.le_of_lt (hgt x hx), stale_lt fun x hx => hgt x (List.mem_of_mem_drop hx)⟩
  show _ = ((Wl.opened D base n lo).secs.take ((Wl.opened D base n lo).first - lo)).map bodyS
  rw [← hlen, List.take_length]
  exact hb.symm
theorem new {n base k : Nat} (hr : base + k ≤ n) : StandsL (Dk.new n) (Wl.new base k) := by
  have hz : ∀ x ∈ ringL (Dk.new n).safe base k 1, x = (0, 0, ⟨#[]⟩) := fun x hx => by
    unfold ringL at hx
    obtain ⟨i, _, rfl⟩ := List.mem_map.1 hx
    unfold sec3
    rw [show (Dk.new n).safe.getD (base + (1 + i) % k) zero128 = zero128 by
      unfold Dk.new
      rw [List.getD_eq_getElem?_getD, List.getElem?_replicate]
      split <;> rfl]
    exact zero_slab3
  refine ⟨by simpa [Dk.new, Wl.new] using hr, rfl, rfl, ?_, fun x hx => ?_, stale_lt fun x hx => ?_⟩
  · show wholeP 0 1 (ringL (Dk.new n).safe base k 1) = []
    cases hL : ringL (Dk.new n).safe base k 1 with
    | nil => rfl
    | cons x L =>
      rw [hz x (by rw [hL]; simp)]
      exact wholeP_stop fun hc => hc.2.1 rfl
  · rw [hz x hx]; exact Nat.zero_le _
  · rw [hz x (List.mem_of_mem_drop hx)]; exact Nat.one_pos
theorem put (h : StandsL D l) (ok : l.Ok) (r : Rc) : StandsL D (l.put r) := by
  have h1 := ok.fl
  have h2 := ok.fe
  unfold Wl.end_ at h2
  have key : (l.put r).low = l.low ∧ (l.put r).base = l.base ∧ (l.put r).size = l.size ∧ (l.put r).epoch = l.epoch ∧ (l.put r).first = l.first ∧ (l.put r).secs.take (l.first - l.low) = l.secs.take (l.first - l.low) := by
    unfold Wl.put
    split
    · rename_i hj
      refine ⟨rfl, rfl, rfl, rfl, rfl, ?_⟩
      have hlt := hj.1
      unfold Wl.end_ at hlt
      simp only
      rw [List.take_append_of_le_length (by rw [List.length_dropLast]; omega), List.dropLast_eq_take, List.take_take]
      congr 1
      omega
    · split
      · exact ⟨rfl, rfl, rfl, rfl, rfl, List.take_append_of_le_length (by omega)⟩
      · exact ⟨rfl, rfl, rfl, rfl, rfl, rfl⟩
  obtain ⟨k1, k2, k3, k4, k5, k6⟩ := key
  refine ⟨by rw [k2, k3]; exact h.room, h.waits, h.gone, ?_, ?_, ?_⟩
  · rw [k1, k2, k3, k5, k6]; exact h.whole
  · rw [k1, k2, k3, k4]; exact h.le
  · rw [k1, k2, k3, k4, k5]; exact h.stale
theorem sector_at (i : Nat) (hi : i < l.secs.length) : l.sector (l.low + i) = packed l.epoch (l.low + i) (bodyS l.secs[i]) := by
  unfold Wl.sector
  rw [Nat.add_sub_cancel_left, List.getD_eq_getElem?_getD, List.getElem?_eq_getElem hi]
  rfl
theorem whole_len (h : StandsL D l) (ok : l.Ok) : (wholeP 0 l.low (ringL D.safe l.base l.size l.low)).length = l.first - l.low := by
  have h1 := ok.fl
  have h2 := ok.fe
  unfold Wl.end_ at h2
  rw [h.whole, List.length_map, List.length_take]
  omega
/-- Behind writes of j sectors, settled each by its fate. -/
theorem written (h : StandsL D l) (ok : l.Ok) (hE : l.epoch < 4294967296) (hend : l.end_ < 4294967296) (j : Nat) (hj : l.first + j ≤ l.end_) (ft : Nat → Nat) (full : Prop) (hf : full → ∀ t, t < j → ft t = 1) :
    ∃ r, r ≤ j ∧ (full → r = j) ∧ wholeP 0 l.low (ringL (settleTo ft (l.pairs l.first j) D.safe j) l.base l.size l.low) = (l.secs.take (l.first - l.low + r)).map bodyS ∧
      (∀ x ∈ ringL (settleTo ft (l.pairs l.first j) D.safe j) l.base l.size l.low, x.1 ≤ l.epoch) ∧ StaleL l.epoch (l.first + j) ((ringL (settleTo ft (l.pairs l.first j) D.safe j) l.base l.size l.low).drop (l.first - l.low + j)) := by
  have f1 := ok.fl
  have f2 := ok.fe
  have f3 : l.end_ = l.low + l.secs.length := rfl
  have hsz := ok.len
  have set := fun (q : Nat) (q1 : l.low ≤ q) (q2 : q < l.low + l.size) => settle_secL l l.low l.first j ft D.safe h.room f1 (by omega) q q1 q2 j (Nat.le_refl _)
  have hm := h.whole_len ok
  generalize hs' : settleTo ft (l.pairs l.first j) D.safe j = s' at *
  generalize hmm : l.first - l.low = m at *
  have hfm : l.first = l.low + m := by omega
  have hL : (ringL D.safe l.base l.size l.low).length = l.size := ringL_len _ _ _ _
  have hL' : (ringL s' l.base l.size l.low).length = l.size := ringL_len _ _ _ _
  have old : ∀ i, ∀ (g : i < (ringL s' l.base l.size l.low).length) (g' : i < (ringL D.safe l.base l.size l.low).length), ¬ (m ≤ i ∧ i < m + j) → (ringL s' l.base l.size l.low)[i] = (ringL D.safe l.base l.size l.low)[i] := fun i g g' hi => by
    rw [ringL_at, ringL_at]
    unfold sec3
    rw [set (l.low + i) (by omega) (by omega), if_neg (by omega)]
  have htake : (ringL s' l.base l.size l.low).take m = (ringL D.safe l.base l.size l.low).take m := by
    refine List.ext_getElem (by simp [hL, hL']) fun i g1 g2 => ?_
    rw [List.length_take] at g1 g2
    rw [List.getElem_take, List.getElem_take]
    exact old i _ _ (by omega)
  let bs := ((l.secs.drop m).take j).map bodyS
  have hbs : bs.length = j := by simp [bs]; omega
  have bat : ∀ i, (g : i < j) → ∀ g2 : i < bs.length, bs[i] = bodyS (l.secs[m + i]'(by omega)) := fun i g g2 => by simp [bs]
  have hmix : Mix l.epoch full (l.low + m) bs ((ringL D.safe l.base l.size l.low).drop m) ((ringL s' l.base l.size l.low).drop m) := by
    refine mix_of (l.low + m) bs _ _ (by simp [hL, hL']) (by simp [hL, hbs]; omega) (fun i g1 g2 g3 => ?_) fun i g1 g2 g3 => ?_
    · rw [List.length_drop] at g2 g3
      rw [List.getElem_drop, List.getElem_drop, ringL_at, ringL_at, bat i (by omega)]
      have hi : m + i < l.secs.length := by omega
      obtain ⟨b1, b2, b3, b4⟩ := Stands.bodies ok (m + i) hi
      have hsec := sector_at (l := l) (m + i) hi
      have e := set (l.low + (m + i)) (by omega) (by omega)
      rw [if_pos (by omega)] at e
      have e2 : sec3 s' l.base l.size (l.low + (m + i)) = slab3 (if ft (l.low + (m + i) - l.first) = 1 then l.sector (l.low + (m + i)) else if ft (l.low + (m + i) - l.first) = 2 then zero128 else D.safe.getD (l.base + (l.low + (m + i)) % l.size) zero128) := by
        unfold sec3; rw [e]
      rw [e2]
      by_cases t1 : ft (l.low + (m + i) - l.first) = 1
      · rw [if_pos t1, hsec, packed_slab3 hE (by omega) b1]
        exact .inl (by rw [Nat.add_assoc])
      · rw [if_neg t1]
        refine .inr ⟨fun hfull => t1 (hf hfull _ (by omega)), ?_⟩
        by_cases t2 : ft (l.low + (m + i) - l.first) = 2
        · rw [if_pos t2, zero_slab3]; exact .inr rfl
        · rw [if_neg t2]; exact .inl rfl
    · rw [List.getElem_drop, List.getElem_drop]
      exact old (m + i) _ _ (by omega)
  have hst := h.stale
  rw [hmm, hfm] at hst
  obtain ⟨a', e1, e2, e3⟩ := whole_cut (ringL D.safe l.base l.size l.low) 0 l.low
  rw [hm] at e2 e3
  have ha : a' ≤ l.epoch := by
    rcases e1 with rfl | ⟨x, hx, rfl⟩
    · exact Nat.zero_le _
    · exact h.le x hx
  have hgood : ∀ b ∈ bs, b.size ≠ 0 ∧ (allS b).isSome = true := fun b hb => by
    obtain ⟨i, hi, rfl⟩ := List.getElem_of_mem hb
    rw [bat i (by omega)]
    have := Stands.bodies ok (m + i) (by omega)
    exact ⟨this.2.1, this.2.2.1⟩
  obtain ⟨r, r1, r2, r3⟩ := mixL_whole (l.low + m) a' bs _ _ hmix ha hst e2 hgood
  refine ⟨r, by omega, fun hfull => by rw [r2 hfull, hbs], ?_, fun x hx => ?_, ?_⟩
  · rw [e3 _ htake, r3, h.whole, hmm]
    show (l.secs.take m).map bodyS ++ (((l.secs.drop m).take j).map bodyS).take r = _
    rw [← List.map_take, List.take_take, Nat.min_eq_left (by omega), ← List.map_append, ← List.take_add]
  · rw [← List.take_append_drop m (ringL s' l.base l.size l.low)] at hx
    rcases List.mem_append.1 hx with hx | hx
    · rw [htake] at hx
      exact h.le x (List.mem_of_mem_take hx)
    · exact mixL_le _ _ _ _ hmix (fun y hy => h.le y (List.mem_of_mem_drop hy)) x hx
  · have := mixL_stale _ _ _ _ hmix hst
    rw [List.drop_drop, hbs] at this
    rw [hfm]
    exact this
end StandsL
end Go.Proofs.Ytpcfhpffbogjmaa

/- A log with any low: flushed, crashed, opened, cut; plain mathematics. -/
namespace Go.Proofs.Ytpcfhpffbogjmaa
open Go.RowKit

namespace StandsL
variable {D : Dk} {l : Wl}
/-- What a flush comes to, of a disk with power. -/
theorem flush_shape (h : StandsL D l) (ok : l.Ok) :
    ((l.flush D).2.2 = 0 ∧ (l.flush D).2.1 = { l with first := l.end_ } ∧ (l.flush D).1.waits = [] ∧ (l.flush D).1.gone = false ∧ (l.flush D).1.safe = settleTo (fun _ => 1) (l.pairs l.first (l.end_ - l.first)) D.safe (l.end_ - l.first) ∧ (D.fuse = none → (l.flush D).1.fuse = none)) ∨
    ((l.flush D).2.2 ≠ 0 ∧ (l.flush D).2.1 = l ∧ D.fuse ≠ none ∧ ∃ j, l.first + j ≤ l.end_ ∧ (l.flush D).1.safe = D.safe ∧ (l.flush D).1.waits = l.pairs l.first j) := by
  have f1 := ok.fl
  have f3 : l.end_ = l.low + l.secs.length := rfl
  have hfe := ok.fe
  unfold Wl.flush
  by_cases he : l.end_ = l.first
  · rw [if_pos he]
    refine .inl ⟨rfl, by rw [he], h.waits, h.gone, ?_, id⟩
    rw [he, Nat.sub_self]
    rfl
  · rw [if_neg he]
    have hq : ∀ q, l.first ≤ q → q < l.first + (l.end_ - l.first) → l.place q < D.safe.length ∧ (l.sector q).size = 128 := fun q q1 q2 => by
      refine ⟨?_, ?_⟩
      · have := h.room
        have := Nat.mod_lt q (show 0 < l.size by have := ok.s8; omega)
        unfold Wl.place
        omega
      · have hi : q - l.low < l.secs.length := by omega
        have := sector_at (l := l) (q - l.low) hi
        rw [show l.low + (q - l.low) = q by omega] at this
        rw [this]
        exact packed_size (Stands.bodies ok _ hi).1
    obtain ⟨j, j1, j2, j3, j4, j5⟩ := writes_is l (l.end_ - l.first) D l.first h.gone hq
    rw [h.waits, List.nil_append] at j3
    generalize l.writes D l.first (l.end_ - l.first) = x at *
    by_cases hx : x.2 ≠ 0
    · rw [if_pos hx]
      exact .inr ⟨hx, rfl, fun hn => hx (j5 hn).2, j, by omega, j2, j3⟩
    · rw [if_neg hx]
      have hx0 : x.2 = 0 := Decidable.not_not.1 hx
      obtain ⟨rfl, hg⟩ := j4 hx0
      by_cases hb : x.1.bears = true
      · have e0 : x.1.syncE = 0 := by unfold Dk.syncE; rw [if_pos hb]
        rw [if_neg (by rw [e0]; simp)]
        have e1 : x.1.sync = { x.1.burn with safe := x.1.settled fun _ => 1, waits := [] } := by unfold Dk.sync; rw [if_pos hb]
        refine .inl ⟨rfl, rfl, by rw [e1], ?_, ?_, fun hn => ?_⟩
        · rw [e1]; show x.1.burn.gone = false; unfold Dk.burn; rw [if_pos hb]; exact hg
        · rw [e1]
          show x.1.settled (fun _ => 1) = _
          unfold Dk.settled
          rw [j2, j3]
          congr 1
          simp [Wl.pairs]
        · rw [e1]
          show x.1.burn.fuse = none
          unfold Dk.burn
          rw [if_pos hb, (j5 hn).1]
          rfl
      · have e0 : x.1.syncE = 4 := by unfold Dk.syncE; rw [if_neg hb]
        have e1 : x.1.sync = x.1.burn := by unfold Dk.sync; rw [if_neg hb]
        rw [if_pos (by rw [e0]; simp)]
        refine .inr ⟨by rw [e0]; simp, rfl, fun hn => hb ?_, l.end_ - l.first, by omega, by rw [e1, Dk.burn_safe]; exact j2, by rw [e1, Dk.burn_waits]; exact j3⟩
        unfold Dk.bears
        rw [hg, (j5 hn).1]
        rfl
/-- Behind a flush that was borne. -/
theorem flushed (h : StandsL D l) (ok : l.Ok) (hE : l.epoch < 4294967296) (hend : l.end_ < 4294967296) (h0 : (l.flush D).2.2 = 0) : (l.flush D).2.1 = { l with first := l.end_ } ∧ StandsL (l.flush D).1 { l with first := l.end_ } ∧ (D.fuse = none → (l.flush D).1.fuse = none) ∧ (l.flush D).1.safe.length = D.safe.length := by
  have f1 := ok.fl
  have hfe := ok.fe
  rcases h.flush_shape ok with ⟨_, h2, h3, h4, h5, h6⟩ | ⟨h1, _⟩
  · obtain ⟨r, r1, r2, r3, r4, r5⟩ := h.written ok hE hend (l.end_ - l.first) (by omega) (fun _ => 1) True fun _ _ _ => rfl
    have hr := r2 trivial
    subst hr
    refine ⟨h2, ⟨?_, h3, h4, ?_, ?_, ?_⟩, h6, by rw [h5, settleTo_len]⟩
    · rw [h5, settleTo_len]; exact h.room
    · rw [h5]
      show _ = (l.secs.take (l.end_ - l.low)).map bodyS
      rw [r3, show l.first - l.low + (l.end_ - l.first) = l.end_ - l.low by omega]
    · rw [h5]; exact r4
    · rw [h5]
      show StaleL l.epoch l.end_ ((ringL _ l.base l.size l.low).drop (l.end_ - l.low))
      rw [show l.end_ - l.low = l.first - l.low + (l.end_ - l.first) by omega]
      have := r5
      rwa [show l.first + (l.end_ - l.first) = l.end_ by omega] at this
  · exact absurd h0 h1
theorem flush_ok (h : StandsL D l) (ok : l.Ok) (hn : D.fuse = none) : (l.flush D).2.2 = 0 := by
  rcases h.flush_shape ok with ⟨h1, _⟩ | ⟨_, _, h3, _⟩
  · exact h1
  · exact absurd hn h3
/-- Behind a flush, and a crash: what is opened with the log's own low. -/
theorem crashed (h : StandsL D l) (ok : l.Ok) (hE : l.epoch < 4294967296) (hend : l.end_ < 4294967296) (hlm : l.low ≤ 16777216) (p : List UInt8) (hD : D.safe.length ≤ 512) :
    ∃ m, l.first - l.low ≤ m ∧ m ≤ l.secs.length ∧ (Wl.opened ((l.flush D).1.crash p) l.base l.size l.low).secs = l.secs.take m ∧ ((l.flush D).2.2 = 0 → m = l.secs.length) ∧
      StandsL ((l.flush D).1.crash p) (Wl.opened ((l.flush D).1.crash p) l.base l.size l.low) ∧ (Wl.opened ((l.flush D).1.crash p) l.base l.size l.low).epoch ≤ l.epoch + 1 ∧ ((l.flush D).1.crash p).safe.length = D.safe.length := by
  have f1 := ok.fl
  have f3 : l.end_ = l.low + l.secs.length := rfl
  have hfe := ok.fe
  have key : ∃ j ft, l.first + j ≤ l.end_ ∧ ((l.flush D).1.crash p).safe = settleTo ft (l.pairs l.first j) D.safe j ∧ ((l.flush D).2.2 = 0 → (∀ t, t < j → ft t = 1) ∧ l.first + j = l.end_) := by
    rcases h.flush_shape ok with ⟨_, h2, h3, h4, h5, h6⟩ | ⟨h1, h2, h3, j, j1, j2, j3⟩
    · refine ⟨l.end_ - l.first, fun _ => 1, by omega, ?_, fun _ => ⟨fun _ _ => rfl, by omega⟩⟩
      show (l.flush D).1.settled _ = _
      unfold Dk.settled
      rw [h3, ← h5]
      rfl
    · refine ⟨j, fate p, j1, ?_, fun h0 => absurd h0 h1⟩
      show (l.flush D).1.settled _ = _
      unfold Dk.settled
      rw [j2, j3]
      congr 1
      simp [Wl.pairs]
  obtain ⟨j, ft, k1, k2, k3⟩ := key
  have hlen : ((l.flush D).1.crash p).safe.length = D.safe.length := by rw [k2, settleTo_len]
  have hroom : l.base + l.size ≤ ((l.flush D).1.crash p).safe.length := by rw [hlen]; exact h.room
  have hst : StandsL ((l.flush D).1.crash p) (Wl.opened ((l.flush D).1.crash p) l.base l.size l.low) := StandsL.opened hroom rfl rfl
  obtain ⟨r, r1, r2, r3, r4, r5⟩ := h.written ok hE hend j k1 ft ((l.flush D).2.2 = 0) fun h0 => (k3 h0).1
  rw [← k2] at r3 r4 r5
  have hbod := Wl.opened_bodies ((l.flush D).1.crash p) l.base l.size l.low
  rw [ringOf_L (show ((l.flush D).1.crash p).waits = [] from rfl), r3] at hbod
  have hokO : (Wl.opened ((l.flush D).1.crash p) l.base l.size l.low).Ok := Wl.Ok.opened ok.s8 ok.s64 (by have := h.room; omega) ok.l1 hlm
  refine ⟨l.first - l.low + r, by omega, by omega, ?_, fun h0 => ?_, hst, ?_, hlen⟩
  · exact Stands.secs_of hbod (fun rs hrs => (hokO.sec rs hrs).2.1) fun rs hrs => (ok.sec rs (List.mem_of_mem_take hrs)).2.1
  · have := r2 h0
    have := (k3 h0).2
    omega
  · show epochOf _ ≤ _
    rw [ringOf_L (show ((l.flush D).1.crash p).waits = [] from rfl)]
    have hle : ∀ (L : List Slab3) (E : Nat), 1 ≤ E + 1 → (∀ x ∈ L, x.1 ≤ E) → epochOf L ≤ E + 1 := fun L E => by
      refine snoc_ind (p := fun L => 1 ≤ E + 1 → (∀ x ∈ L, x.1 ≤ E) → epochOf L ≤ E + 1) (fun h _ => h) (fun L x ih h hx => ?_) L
      rw [epochOf_snoc]
      have := ih h fun y hy => hx y (by simp [hy])
      have := hx x (by simp)
      omega
    exact hle _ _ (by omega) r4

theorem stale_of {E : Nat} {k : Nat} {T : List Slab3} (h : ∀ (i : Nat) x, T[i]? = some x → x.1 < E ∨ x.2.1 ≠ k + i) : StaleL E k T := staleL_of fun i hi => h i _ (List.getElem?_eq_getElem hi)
theorem stale_at {E : Nat} {k : Nat} {T : List Slab3} (h : StaleL E k T) (i : Nat) (x : Slab3) (hx : T[i]? = some x) : x.1 < E ∨ x.2.1 ≠ k + i := by
  obtain ⟨hi, rfl⟩ := List.getElem?_eq_some_iff.1 hx
  exact staleL_at h i hi
/-- What is read from a sector on is of its number. -/
theorem whole_at : ∀ {L : List Slab3} {a i k : Nat}, k < (wholeP a i L).length → ∃ x, L[k]? = some x ∧ x.2.1 = i + k
  | [], a, i, k, h => by simp [wholeP] at h
  | x :: L, a, i, k, h => by
    by_cases hc : x.2.1 = i ∧ x.2.2.size ≠ 0 ∧ (allS x.2.2).isSome = true ∧ a ≤ x.1
    · rw [wholeP_go hc.1 hc.2.1 hc.2.2.1 hc.2.2.2] at h
      cases k with
      | zero => exact ⟨x, rfl, hc.1⟩
      | succ k =>
        obtain ⟨y, g, g1⟩ := whole_at (L := L) (a := x.1) (i := i + 1) (k := k) (by simpa using h)
        exact ⟨y, by rw [List.getElem?_cons_succ]; exact g, by omega⟩
    · rw [wholeP_stop hc] at h
      simp at h
/-- From a sector on that counts, what is read does not hang on the epoch ahead of it. -/
theorem whole_from : ∀ {z : Nat} {L : List Slab3} {a i : Nat}, z < (wholeP a i L).length → (wholeP a i L).drop z = wholeP 0 (i + z) (L.drop z)
  | _, [], a, i, h => by simp [wholeP] at h
  | 0, x :: L, a, i, h => by
    by_cases hc : x.2.1 = i ∧ x.2.2.size ≠ 0 ∧ (allS x.2.2).isSome = true ∧ a ≤ x.1
    · rw [List.drop_zero, List.drop_zero, wholeP_go hc.1 hc.2.1 hc.2.2.1 hc.2.2.2, Nat.add_zero]
      exact (wholeP_go hc.1 hc.2.1 hc.2.2.1 (Nat.zero_le _)).symm
    · rw [wholeP_stop hc] at h
      simp at h
  | z + 1, x :: L, a, i, h => by
    by_cases hc : x.2.1 = i ∧ x.2.2.size ≠ 0 ∧ (allS x.2.2).isSome = true ∧ a ≤ x.1
    · rw [wholeP_go hc.1 hc.2.1 hc.2.2.1 hc.2.2.2] at h ⊢
      rw [List.drop_succ_cons, List.drop_succ_cons, show i + (z + 1) = i + 1 + z by omega]
      exact whole_from (by simpa using h)
    · rw [wholeP_stop hc] at h
      simp at h
/-- Slabs of other numbers behind change nothing. -/
theorem whole_behind : ∀ {L Z : List Slab3} {a i : Nat}, (∀ (k : Nat) x, Z[k]? = some x → x.2.1 ≠ i + L.length + k) → wholeP a i (L ++ Z) = wholeP a i L
  | [], Z, a, i, h => by
    rw [List.nil_append]
    cases Z with
    | nil => rfl
    | cons z Z =>
      rw [wholeP_stop fun hc => h 0 z rfl (by simpa using hc.1)]
      rfl
  | x :: L, Z, a, i, h => by
    rw [List.cons_append]
    by_cases hc : x.2.1 = i ∧ x.2.2.size ≠ 0 ∧ (allS x.2.2).isSome = true ∧ a ≤ x.1
    · rw [wholeP_go hc.1 hc.2.1 hc.2.2.1 hc.2.2.2, wholeP_go hc.1 hc.2.1 hc.2.2.1 hc.2.2.2]
      congr 1
      refine whole_behind fun k y hk => ?_
      have := h k y hk
      rw [List.length_cons] at this
      rw [show i + 1 + L.length + k = i + (L.length + 1) + k by omega]
      exact this
    · rw [wholeP_stop hc, wholeP_stop hc]
/-- The ring from a later number on: what was behind, and the sectors that are let go, of other numbers. -/
theorem ring_split {s : List ByteArray} {base n lo z : Nat} (h1 : lo ≤ z) (h2 : z - lo ≤ n) : ringL s base n z = (ringL s base n lo).drop (z - lo) ++ (ringL s base n lo).take (z - lo) := by
  refine List.ext_getElem (by simp [ringL_len]; omega) fun i g1 g2 => ?_
  rw [ringL_len] at g1
  rw [ringL_at]
  by_cases hi : i < n - (z - lo)
  · rw [List.getElem_append_left (by simp [ringL_len]; omega), List.getElem_drop, ringL_at]
    congr 1
    omega
  · rw [List.getElem_append_right (by simp [ringL_len]; omega), List.getElem_take, ringL_at]
    simp only [List.length_drop, ringL_len]
    unfold sec3
    congr 3
    rw [show z + i = lo + (i - (n - (z - lo))) + n by omega, Nat.add_mod_right]
/-- The sectors that are let go are of numbers that come no more. -/
theorem gone_idx {s : List ByteArray} {base n lo z : Nat} (h1 : lo ≤ z) (h2 : z - lo < (wholeP 0 lo (ringL s base n lo)).length) (k : Nat) (x : Slab3) (hx : ((ringL s base n lo).take (z - lo))[k]? = some x) :
    k < z - lo ∧ x.2.1 ≠ z + (n - (z - lo)) + k := by
  rw [List.getElem?_take] at hx
  split at hx
  · rename_i hk
    have hle := wholeP_len 0 lo (ringL s base n lo)
    rw [ringL_len] at hle
    obtain ⟨y, g, g1⟩ := whole_at (L := ringL s base n lo) (a := 0) (i := lo) (k := k) (by omega)
    rw [g] at hx
    cases hx
    exact ⟨hk, by omega⟩
  · cases hx
/-- A log that is cut, as far as there is a safe sector behind. -/
def _root_.Go.Proofs.Ytpcfhpffbogjmaa.Wl.cutTo (l : Wl) (z : Nat) : Wl := { l with low := z, secs := l.secs.drop (z - l.low) }
theorem cut (h : StandsL D l) (ok : l.Ok) {z : Nat} (h1 : l.low ≤ z) (h2 : z < l.first) : StandsL D (l.cutTo z) := by
  have hfe := ok.fe
  have hlen := ok.len
  have f3 : l.end_ = l.low + l.secs.length := rfl
  have hn := ok.s8
  have hw := h.whole_len ok
  have hz : z - l.low < (wholeP 0 l.low (ringL D.safe l.base l.size l.low)).length := by rw [hw]; omega
  have hsp := ring_split (s := D.safe) (base := l.base) (n := l.size) h1 (by omega)
  have hidx := gone_idx h1 hz
  have hdl : ((ringL D.safe l.base l.size l.low).drop (z - l.low)).length = l.size - (z - l.low) := by rw [List.length_drop, ringL_len]
  refine ⟨h.room, h.waits, h.gone, ?_, fun x hx => ?_, ?_⟩
  · show wholeP 0 z (ringL D.safe l.base l.size z) = ((l.secs.drop (z - l.low)).take (l.first - z)).map bodyS
    rw [hsp, whole_behind fun k x hx => by rw [hdl]; exact (hidx k x hx).2]
    have := whole_from hz
    rw [show l.low + (z - l.low) = z by omega] at this
    rw [← this, h.whole, ← List.map_drop, List.drop_take, show l.first - l.low - (z - l.low) = l.first - z by omega]
  · have hx : x ∈ ringL D.safe l.base l.size z := hx
    rw [hsp] at hx
    rcases List.mem_append.1 hx with hx | hx
    · exact h.le x (List.mem_of_mem_drop hx)
    · exact h.le x (List.mem_of_mem_take hx)
  · show StaleL l.epoch l.first ((ringL D.safe l.base l.size z).drop (l.first - z))
    rw [hsp]
    refine stale_of fun i x hx => ?_
    rw [List.getElem?_drop] at hx
    by_cases hb : l.first - z + i < l.size - (z - l.low)
    · rw [List.getElem?_append_left (by rw [hdl]; exact hb), List.getElem?_drop] at hx
      refine stale_at h.stale i x ?_
      rw [List.getElem?_drop, ← hx]
      congr 1
      omega
    · rw [List.getElem?_append_right (by rw [hdl]; omega), hdl] at hx
      obtain ⟨g1, g2⟩ := hidx _ x hx
      right
      omega
/-- Opened with a later low, of which a safe sector is: as opened with the log's own one, and cut. -/
theorem opened_cut {base n lo z : Nat} (hw : D.waits = []) (h1 : lo ≤ z) (h2 : z < (Wl.opened D base n lo).first) : Wl.opened D base n z = (Wl.opened D base n lo).cutTo z := by
  have hlen : lo + (wholeP 0 lo (ringL D.safe base n lo)).length = (Wl.opened D base n lo).first := by
    unfold Wl.opened
    rw [ringOf_L hw]
  have hz : z - lo < (wholeP 0 lo (ringL D.safe base n lo)).length := by omega
  have hle := wholeP_len 0 lo (ringL D.safe base n lo)
  rw [ringL_len] at hle
  have hsp := ring_split (s := D.safe) (base := base) (n := n) h1 (by omega)
  have hidx := gone_idx h1 hz
  have hdl : ((ringL D.safe base n lo).drop (z - lo)).length = n - (z - lo) := by rw [List.length_drop, ringL_len]
  have hwh : wholeP 0 z (ringL D.safe base n z) = (wholeP 0 lo (ringL D.safe base n lo)).drop (z - lo) := by
    rw [hsp, whole_behind fun k x hx => by rw [hdl]; exact (hidx k x hx).2]
    have := whole_from hz
    rw [show lo + (z - lo) = z by omega] at this
    exact this.symm
  have hep : epochOf (ringL D.safe base n z) = epochOf (ringL D.safe base n lo) := by
    have one : ∀ L : List Slab3, 1 ≤ epochOf L := fun L => snoc_ind (p := fun L => 1 ≤ epochOf L) (Nat.le_refl _) (fun L x ih => by rw [epochOf_snoc]; omega) L
    have app : ∀ (L M : List Slab3), epochOf (L ++ M) = max (epochOf L) (epochOf M) := fun L M => by
      refine snoc_ind (p := fun M => epochOf (L ++ M) = max (epochOf L) (epochOf M)) ?_ (fun M x ih => ?_) M
      · rw [List.append_nil]
        have := one L
        show _ = max _ 1
        omega
      · rw [← List.append_assoc, epochOf_snoc, epochOf_snoc, ih]
        omega
    rw [hsp, app]
    have e := app ((ringL D.safe base n lo).take (z - lo)) ((ringL D.safe base n lo).drop (z - lo))
    rw [List.take_append_drop] at e
    rw [e]
    exact Nat.max_comm _ _
  unfold Wl.cutTo Wl.opened
  simp only
  rw [ringOf_L hw, ringOf_L hw, hwh, hep, List.length_drop, List.map_drop]
  congr 1
  omega
end StandsL
end Go.Proofs.Ytpcfhpffbogjmaa

/- A tape as plain data: what is on it, and what it tells together with a log (stage 15; written ahead). -/
namespace Go.Proofs.Ytpcfhpffbogjmaa
open Go.RowKit

/-- The places rise. -/
def Up (l : List Ent) : Prop := l.Pairwise fun x y => x.1 < y.1
/-- All entries ahead of a place; all from it on. -/
def upTo (l : List Ent) (c : Int) : List Ent := l.filter fun x => decide (x.1 < c)
def fromOn (l : List Ent) (c : Int) : List Ent := l.filter fun x => decide (c ≤ x.1)
theorem upTo_all {l : List Ent} {c : Int} (h : ∀ x ∈ l, x.1 < c) : upTo l c = l := List.filter_eq_self.2 fun x hx => by simpa using h x hx
theorem upTo_none {l : List Ent} {c : Int} (h : ∀ x ∈ l, c ≤ x.1) : upTo l c = [] := List.filter_eq_nil_iff.2 fun x hx => by have := h x hx; simp; omega
theorem fromOn_all {l : List Ent} {c : Int} (h : ∀ x ∈ l, c ≤ x.1) : fromOn l c = l := List.filter_eq_self.2 fun x hx => by simpa using h x hx
theorem fromOn_none {l : List Ent} {c : Int} (h : ∀ x ∈ l, x.1 < c) : fromOn l c = [] := List.filter_eq_nil_iff.2 fun x hx => by have := h x hx; simp; omega
theorem upTo_app (l m : List Ent) (c : Int) : upTo (l ++ m) c = upTo l c ++ upTo m c := List.filter_append ..
theorem fromOn_app (l m : List Ent) (c : Int) : fromOn (l ++ m) c = fromOn l c ++ fromOn m c := List.filter_append ..
theorem split_at : ∀ {l : List Ent}, Up l → ∀ c, upTo l c ++ fromOn l c = l
  | [], _, _ => rfl
  | x :: l, h, c => by
    by_cases hx : x.1 < c
    · have := split_at (List.pairwise_cons.1 h).2 c
      unfold upTo fromOn at this ⊢
      rw [List.filter_cons_of_pos (by simpa using hx), List.filter_cons_of_neg (by simp; omega), List.cons_append, this]
    · have h1 : upTo (x :: l) c = [] := upTo_none fun y hy => by
        rcases List.mem_cons.1 hy with rfl | hy
        · omega
        · have := (List.pairwise_cons.1 h).1 y hy
          omega
      have h2 : fromOn (x :: l) c = x :: l := fromOn_all fun y hy => by
        rcases List.mem_cons.1 hy with rfl | hy
        · omega
        · have := (List.pairwise_cons.1 h).1 y hy
          omega
      rw [h1, h2, List.nil_append]
theorem fromOn_from (l : List Ent) {c d : Int} (h : c ≤ d) : fromOn (fromOn l c) d = fromOn l d := by
  unfold fromOn
  rw [List.filter_filter]
  refine List.filter_congr fun x _ => ?_
  by_cases hd : d ≤ x.1
  · simp [hd, Int.le_trans h hd]
  · simp [hd]
theorem upTo_upTo (l : List Ent) {c d : Int} (h : c ≤ d) : upTo (upTo l d) c = upTo l c := by
  unfold upTo
  rw [List.filter_filter]
  refine List.filter_congr fun x _ => ?_
  by_cases hd : x.1 < c
  · simp [hd, Int.lt_of_lt_of_le hd h]
  · simp [hd]
theorem upTo_fromOn (l : List Ent) (c d : Int) : upTo (fromOn l c) d = fromOn (upTo l d) c := by
  unfold upTo fromOn
  rw [List.filter_filter, List.filter_filter]
  refine List.filter_congr fun x _ => Bool.and_comm ..
/-- From a place to another, behind all ahead of it: all ahead of the other. -/
theorem upTo_more {l : List Ent} (h : Up l) {c d : Int} (hcd : c ≤ d) : upTo l c ++ upTo (fromOn l c) d = upTo l d := by
  rw [upTo_fromOn, ← upTo_upTo l hcd]
  exact split_at (List.Pairwise.sublist List.filter_sublist h) c
theorem Up.upTo {l : List Ent} (h : Up l) (c : Int) : Up (upTo l c) := List.Pairwise.sublist List.filter_sublist h
/-- The places of a log's records. -/
theorem entsOf_up : ∀ (a : Int) (rs : List Rc), (∀ r ∈ rs, May r) → Up (entsOf a rs)
  | _, [], _ => List.Pairwise.nil
  | a, r :: rs, hm => by
    have hp := lay_pos (hm r (by simp))
    refine List.pairwise_cons.2 ⟨fun x hx => ?_, entsOf_up _ rs fun q hq => hm q (by simp [hq])⟩
    have := (entsOf_ge _ rs (fun q hq => hm q (by simp [hq])) x hx).1
    show a < x.1
    omega
theorem Wl.allFrom_low : ∀ (k : Nat) (s : List (List Rc)), (∀ rs ∈ s, ∀ r ∈ rs, May r) → ∀ x ∈ Wl.allFrom k s, ((k * 128 : Nat) : Int) ≤ x.1
  | _, [], _, x, h => by simp [Wl.allFrom] at h
  | k, rs :: s, hs, x, h => by
    rcases List.mem_append.1 h with h | h
    · exact (entsOf_ge _ rs (hs rs (by simp)) x h).1
    · have := Wl.allFrom_low (k + 1) s (fun q hq => hs q (by simp [hq])) x h
      omega
theorem Wl.allFrom_up : ∀ (k : Nat) (s : List (List Rc)), (∀ rs ∈ s, (∀ r ∈ rs, May r) ∧ (body rs).length ≤ 112) → Up (Wl.allFrom k s)
  | _, [], _ => List.Pairwise.nil
  | k, rs :: s, hs => by
    refine List.pairwise_append.2 ⟨entsOf_up _ rs (hs rs (by simp)).1, Wl.allFrom_up (k + 1) s (fun q hq => hs q (by simp [hq])), fun x hx y hy => ?_⟩
    have h1 := (entsOf_ge _ rs (hs rs (by simp)).1 x hx).2
    have h2 := (hs rs (by simp)).2
    have h3 := Wl.allFrom_low (k + 1) s (fun q hq => (hs q (by simp [hq])).1) y hy
    unfold body at h2
    omega
namespace Wl
variable {l : Wl}
theorem secs_ok (ok : l.Ok) : ∀ rs ∈ l.secs, (∀ r ∈ rs, May r) ∧ (body rs).length ≤ 112 := fun rs h => (ok.sec rs h).2
theorem all_up (ok : l.Ok) : Up l.all := allFrom_up _ _ (secs_ok ok)
theorem all_low (ok : l.Ok) : ∀ x ∈ l.all, ((l.low * 128 : Nat) : Int) ≤ x.1 := allFrom_low _ _ fun rs h => (secs_ok ok rs h).1
theorem all_end (ok : l.Ok) : ∀ x ∈ l.all, x.1 < ((l.end_ * 128 : Nat) : Int) := allFrom_lt _ _ (secs_ok ok)
/-- The records of a log's first sectors. -/
theorem all_take (ok : l.Ok) {m : Nat} (hm : m ≤ l.secs.length) : allFrom l.low (l.secs.take m) = upTo l.all (((l.low + m) * 128 : Nat) : Int) := by
  have h1 : l.all = allFrom l.low (l.secs.take m) ++ allFrom (l.low + m) (l.secs.drop m) := by
    unfold all
    conv => lhs; rw [← List.take_append_drop m l.secs]
    rw [allFrom_app, List.length_take, Nat.min_eq_left hm]
  rw [h1, upTo_app, upTo_none (allFrom_low _ _ fun rs h => (secs_ok ok rs (List.mem_of_mem_drop h)).1), List.append_nil]
  refine (upTo_all fun x hx => ?_).symm
  have := allFrom_lt _ _ (fun rs h => secs_ok ok rs (List.mem_of_mem_take h)) x hx
  rwa [List.length_take, Nat.min_eq_left hm] at this
/-- The records of a log's last sectors. -/
theorem all_drop (ok : l.Ok) {m : Nat} (hm : m ≤ l.secs.length) : allFrom (l.low + m) (l.secs.drop m) = fromOn l.all (((l.low + m) * 128 : Nat) : Int) := by
  have h1 : l.all = allFrom l.low (l.secs.take m) ++ allFrom (l.low + m) (l.secs.drop m) := by
    unfold all
    conv => lhs; rw [← List.take_append_drop m l.secs]
    rw [allFrom_app, List.length_take, Nat.min_eq_left hm]
  rw [h1, fromOn_app, fromOn_all (allFrom_low _ _ fun rs h => (secs_ok ok rs (List.mem_of_mem_drop h)).1)]
  rw [fromOn_none fun x hx => ?_, List.nil_append]
  have := allFrom_lt _ _ (fun rs h => secs_ok ok rs (List.mem_of_mem_take h)) x hx
  rwa [List.length_take, Nat.min_eq_left hm] at this
end Wl

/-- All that a log ever kept, and keeps still or let go: what it has now is that from its low on. -/
structure Told (H : List Ent) (l : Wl) : Prop where
  up : Up H
  pos : ∀ x ∈ H, 128 ≤ x.1
  all : l.all = fromOn H ((l.low * 128 : Nat) : Int)
namespace Told
variable {H : List Ent} {l : Wl}
theorem new (base n : Nat) : Told [] (Wl.new base n) := ⟨List.Pairwise.nil, fun x h => by simp at h, rfl⟩
theorem put (h : Told H l) (ok : l.Ok) {r : Rc} (h0 : l.putE r = 0) : Told (H ++ [((l.putAt r : Int), r)]) (l.put r) := by
  obtain ⟨s, rs, e1, e2, e3, e4, e5, e6, e7, _, _, e8, e9⟩ := Wl.put_where ok h0
  obtain ⟨g1, g2, g3⟩ := Wl.put_gt ok h0
  refine ⟨List.pairwise_append.2 ⟨h.up, List.pairwise_singleton _ _, fun x hx y hy => ?_⟩, fun x hx => ?_, ?_⟩
  · obtain rfl := List.mem_singleton.1 hy
    by_cases hx2 : ((l.low * 128 : Nat) : Int) ≤ x.1
    · refine g1 x ?_
      rw [h.all]
      exact List.mem_filter.2 ⟨hx, by simpa using hx2⟩
    · show x.1 < (l.putAt r : Int)
      omega
  · rcases List.mem_append.1 hx with hx | hx
    · exact h.pos x hx
    · obtain rfl := List.mem_singleton.1 hx
      show (128 : Int) ≤ (l.putAt r : Int)
      omega
  · rw [Wl.putAll h0 ok.fl, e7, fromOn_app, h.all]
    congr 1
    refine (fromOn_all fun x hx => ?_).symm
    obtain rfl := List.mem_singleton.1 hx
    show _ ≤ (l.putAt r : Int)
    omega
theorem like (h : Told H l) {l' : Wl} (hl : l'.low = l.low) (hs : l'.secs = l.secs) : Told H l' := ⟨h.up, h.pos, by unfold Wl.all; rw [hl, hs]; exact h.all⟩
/-- Sectors that are let go. -/
theorem cut (h : Told H l) (ok : l.Ok) {z : Nat} (h1 : l.low ≤ z) (h2 : z ≤ l.end_) : Told H (l.cutTo z) := by
  refine ⟨h.up, h.pos, ?_⟩
  have hm : z - l.low ≤ l.secs.length := by unfold Wl.end_ at h2; omega
  have e := Wl.all_drop ok hm
  rw [show l.low + (z - l.low) = z by omega] at e
  show Wl.allFrom z (l.secs.drop (z - l.low)) = fromOn H ((z * 128 : Nat) : Int)
  rw [e, h.all]
  exact fromOn_from H (by omega)
/-- A crash leaves its first sectors. -/
theorem crash (h : Told H l) (ok : l.Ok) {l' : Wl} {m : Nat} (hl : l'.low = l.low) (hs : l'.secs = l.secs.take m) (hm : m ≤ l.secs.length) : Told (upTo H (((l.low + m) * 128 : Nat) : Int)) l' := by
  refine ⟨h.up.upTo _, fun x hx => h.pos x (List.mem_filter.1 hx).1, ?_⟩
  show Wl.allFrom l'.low l'.secs = fromOn (upTo H _) ((l'.low * 128 : Nat) : Int)
  rw [hl, hs, Wl.all_take ok hm, h.all, upTo_fromOn]
end Told

/-- A tape. -/
structure Tp where
  upto : Nat
  l : List Ent
namespace Tp
def new : Tp := ⟨1, []⟩
/-- What a log has behind the tape; what of it is safe. -/
def behind (t : Tp) (l : Wl) : List Ent := l.scan ((t.upto * 128 : Nat) : Int)
def fresh (t : Tp) (l : Wl) : List Ent := (t.behind l).filter fun x => decide (x.1.tdiv 128 < (l.first : Int))
def err (t : Tp) (l : Wl) : Nat := if t.upto < l.low then 11 else 0
def addN (t : Tp) (l : Wl) : Nat := if t.upto < l.low then 0 else (t.fresh l).length
def add (t : Tp) (l : Wl) : Tp := if t.upto < l.low then t else ⟨max t.upto l.first, t.l ++ t.fresh l⟩
def whole (t : Tp) (l : Wl) : List Ent := if t.upto < l.low then [] else t.l ++ t.behind l
variable {t : Tp} {l : Wl}
theorem scan_eq (l : Wl) (c : Int) : l.scan c = fromOn l.all c := rfl
theorem fresh_eq (ok : l.Ok) : t.fresh l = upTo (fromOn l.all ((t.upto * 128 : Nat) : Int)) ((l.first * 128 : Nat) : Int) := by
  unfold fresh behind
  rw [scan_eq]
  unfold upTo
  refine List.filter_congr fun x hx => ?_
  have h1 := Wl.all_low ok x (List.mem_filter.1 hx).1
  by_cases h : x.1 < ((l.first * 128 : Nat) : Int)
  · rw [decide_eq_true h, decide_eq_true]
    rw [Int.tdiv_eq_ediv_of_nonneg (by omega)]
    omega
  · rw [decide_eq_false h, decide_eq_false]
    rw [Int.tdiv_eq_ediv_of_nonneg (by omega)]
    omega
/-- A tape has all that a log ever kept, up to its end. -/
structure Has (t : Tp) (H : List Ent) (l : Wl) : Prop where
  l_ : t.l = upTo H ((t.upto * 128 : Nat) : Int)
  one : 1 ≤ t.upto
  first : t.upto ≤ l.first
theorem Has.new (base n : Nat) : Has Tp.new [] (Wl.new base n) := ⟨rfl, Nat.le_refl _, Nat.le_refl _⟩
variable {H : List Ent}
theorem Has.add (h : Has t H l) (k : Told H l) (ok : l.Ok) (hl : l.low ≤ t.upto) : Has (t.add l) H l := by
  unfold Tp.add
  rw [if_neg (by omega)]
  refine ⟨?_, by have := h.one; show 1 ≤ max t.upto l.first; omega, by have := h.first; show max t.upto l.first ≤ l.first; omega⟩
  show t.l ++ t.fresh l = upTo H ((max t.upto l.first * 128 : Nat) : Int)
  rw [Nat.max_eq_right h.first, fresh_eq ok, k.all, fromOn_from H (by omega), h.l_]
  exact upTo_more k.up (by have := h.first; omega)
theorem Has.whole (h : Has t H l) (k : Told H l) (hl : l.low ≤ t.upto) : t.whole l = H := by
  unfold Tp.whole behind
  rw [if_neg (by omega), scan_eq, k.all, fromOn_from H (by omega), h.l_]
  exact split_at k.up _
theorem Has.put (h : Has t H l) (ok : l.Ok) {r : Rc} (h0 : l.putE r = 0) : Has t (H ++ [((l.putAt r : Int), r)]) (l.put r) := by
  obtain ⟨s, rs, e1, e2, e3, e4, e5, e6, e7, e8, _⟩ := Wl.put_where ok h0
  have hf := h.first
  refine ⟨?_, h.one, by rw [e8]; exact hf⟩
  rw [upTo_app, upTo_none (l := [((l.putAt r : Int), r)]) fun x hx => ?_, List.append_nil]
  · exact h.l_
  · obtain rfl := List.mem_singleton.1 hx
    show _ ≤ (l.putAt r : Int)
    omega
/-- Flushed, cut at most up to its first: the tape stands. -/
theorem Has.like (h : Has t H l) {l' : Wl} (hf : l.first ≤ l'.first) : Has t H l' := ⟨h.l_, h.one, Nat.le_trans h.first hf⟩
/-- A crash takes nothing that is safe. -/
theorem Has.crash (h : Has t H l) {l' : Wl} {m : Nat} (hm : l.first ≤ l.low + m) (hf : l'.first = l.low + m) : Has t (upTo H (((l.low + m) * 128 : Nat) : Int)) l' := by
  have := h.first
  exact ⟨by rw [h.l_, upTo_upTo H (by omega)], h.one, by omega⟩
/-- What TapeGrows asks: all of it is safe. -/
theorem Has.safe (h : Has t H l) (k : Told H l) : ∀ x ∈ t.l, x.1.tdiv 128 < (l.first : Int) := fun x hx => by
  rw [h.l_] at hx
  obtain ⟨h1, h2⟩ := List.mem_filter.1 hx
  have h3 := k.pos x h1
  have h4 : x.1 < ((t.upto * 128 : Nat) : Int) := by simpa using h2
  have h5 := h.first
  rw [Int.tdiv_eq_ediv_of_nonneg (by omega)]
  omega
theorem Has.open_ (h : Has t H l) (ok : l.Ok) : t.upto ≤ l.openNo := by
  have h1 := h.first
  have h2 := ok.fe
  unfold Wl.openNo
  split <;> omega
theorem add_l (t : Tp) (l : Wl) : ∃ m, (t.add l).l = t.l ++ m ∧ m.length = t.addN l := by
  unfold Tp.add addN
  split
  · exact ⟨[], by simp, rfl⟩
  · exact ⟨t.fresh l, rfl, rfl⟩
theorem add_end (t : Tp) (l : Wl) : t.upto ≤ (t.add l).upto := by
  unfold Tp.add
  split
  · exact Nat.le_refl _
  · exact Nat.le_max_left ..
end Tp
end Go.Proofs.Ytpcfhpffbogjmaa

/- careenlaw05: what the document fixes comes out. -/
namespace Go.Proofs.Ytpcfhpffbogjmaa
open Go.RowKit

namespace Aw5
def R : Rc := .begin5
theorem layR : lay R = [5] := by decide
theorem mR : May R := .beg
def l0 : Wl := Wl.new 1 8
def l1 : Wl := { l0 with secs := [[R]] }
def l2 : Wl := { l0 with secs := [[R, R]] }
def l3 : Wl := { l2 with first := 2 }
def l4 : Wl := { l3 with secs := [[R, R], [R]] }
def D0 : Dk := Dk.new 10
theorem body1 : (body [R]).length = 1 := by simp [body, layR]
theorem a1 : l0.app R = (128, 0, l1) := by
  rw [Wl.app_may mR]
  have hj : ¬ l0.joins R := by unfold Wl.joins; intro h; exact absurd h.1 (by decide)
  simp only [Wl.putAt, Wl.putE, Wl.put, if_neg hj]
  rfl
theorem a2 : l1.app R = (129, 0, l2) := by
  rw [Wl.app_may mR]
  have hj : l1.joins R := by
    unfold Wl.joins
    refine ⟨by decide, ?_⟩
    show (body [R]).length + (lay R).length ≤ 112
    rw [body1, layR]; decide
  simp only [Wl.putAt, Wl.putE, Wl.put, if_pos hj]
  show ((l1.end_ - 1) * 128 + (body [R]).length, 0, _) = _
  rw [body1]
  rfl
theorem a3 : l3.app R = (256, 0, l4) := by
  rw [Wl.app_may mR]
  have hj : ¬ l3.joins R := by unfold Wl.joins; intro h; exact absurd h.1 (by decide)
  simp only [Wl.putAt, Wl.putE, Wl.put, if_neg hj]
  rfl
theorem ok0 : l0.Ok := Wl.Ok.new (by decide) (by decide) (by decide)
theorem short : (lay R).length ≤ 112 := by rw [layR]; decide
theorem put1 : l1 = l0.put R := by have := a1; rw [Wl.app_may mR] at this; exact (Prod.mk.inj (Prod.mk.inj this).2).2.symm
theorem put2 : l2 = l1.put R := by have := a2; rw [Wl.app_may mR] at this; exact (Prod.mk.inj (Prod.mk.inj this).2).2.symm
theorem put4 : l4 = l3.put R := by have := a3; rw [Wl.app_may mR] at this; exact (Prod.mk.inj (Prod.mk.inj this).2).2.symm
theorem ok1 : l1.Ok := by rw [put1]; exact ok0.put mR short
theorem ok2 : l2.Ok := by rw [put2]; exact ok1.put mR short
theorem s0 : Stands D0 l0 := Stands.new (by decide)
theorem s2 : Stands D0 l2 := by rw [put2, put1]; exact (s0.put ok0 R).put (by rw [← put1]; exact ok1) R
theorem hE2 : l2.epoch < 4294967296 := by show (1 : Nat) < 4294967296; omega
theorem f0 : (l2.flush D0).2.2 = 0 := s2.flush_ok ok2 (by unfold D0 Dk.new; rfl)
theorem f1 : (l2.flush D0).2.1 = l3 := (s2.flushed ok2 hE2 f0).1
theorem fs : Stands (l2.flush D0).1 l3 := (s2.flushed ok2 hE2 f0).2.1
theorem fn : (l2.flush D0).1.safe.length = 10 := (s2.flushed ok2 hE2 f0).2.2.2.trans (by simp [D0, Dk.new])
theorem fu : (l2.flush D0).1.fuse = none := (s2.flushed ok2 hE2 f0).2.2.1 (by unfold D0 Dk.new; rfl)
theorem fr : (l2.flush D0).1.safe = settleTo (fun _ => 1) (l2.pairs 1 1) D0.safe 1 := ((flush_shape s2 ok2).resolve_right fun h => h.1 f0).2.2.2.2.1
def D1 : Dk := (l2.flush D0).1
theorem D1_eq : D1 = (l2.flush D0).1 := rfl
theorem s3 : Stands D1 l3 := by rw [D1_eq]; exact fs
theorem n1 : D1.safe.length = 10 := by rw [D1_eq]; exact fn
theorem u1 : D1.fuse = none := by rw [D1_eq]; exact fu
theorem r1 : D1.safe = settleTo (fun _ => 1) (l2.pairs 1 1) D0.safe 1 := by rw [D1_eq]; exact fr
def D2 : Dk := D1.crash []
theorem crash_still (D : Dk) (h : D.waits = []) (p : List UInt8) : (D.crash p).safe = D.safe := by
  unfold Dk.crash Dk.settled
  rw [h]
  rfl
theorem D2_safe : D2.safe = D1.safe := crash_still D1 s3.waits []
theorem n2 : D2.safe.length = 10 := by rw [D2_safe]; exact n1
noncomputable def m : Wl := Wl.opened D2 1 8 1
theorem ring : ringOf (Wl.head 1 8 1) D2 8 = ring3 D1.safe 1 8 := by rw [ringOf_3 rfl, D2_safe]
theorem mOk : m.Ok := Wl.Ok.opened (by decide) (by decide) (by decide) (by decide) (by decide)
theorem msecs : m.secs = [[R, R]] := by
  refine Stands.secs_of ?_ (fun rs hrs => (mOk.sec rs hrs).2.1) fun rs hrs r hr => ?_
  · unfold m
    rw [Wl.opened_bodies, ring]
    exact s3.whole
  · simp at hrs; subst hrs; simp at hr; subst hr; exact .beg
theorem mfirst : m.first = 2 := by
  have h := congrArg List.length (Wl.opened_bodies D2 1 8 1)
  show 1 + (wholeP 0 1 (ringOf (Wl.head 1 8 1) D2 8)).length = 2
  rw [← h, List.length_map]
  rw [show (Wl.opened D2 1 8 1).secs = m.secs from rfl, msecs]
  rfl
theorem mepoch : m.epoch = 2 := by
  show epochOf (ringOf (Wl.head 1 8 1) D2 8) = 2
  rw [ring]
  have hle : ∀ (L : List Slab3), (∀ x ∈ L, x.1 ≤ 1) → epochOf L ≤ 2 := fun L => by
    refine snoc_ind (p := fun L => (∀ x ∈ L, x.1 ≤ 1) → epochOf L ≤ 2) (fun _ => by decide) (fun L x ih hx => ?_) L
    rw [epochOf_snoc]
    have := ih fun y hy => hx y (by simp [hy])
    have := hx x (by simp)
    omega
  have h1 : epochOf (ring3 D1.safe 1 8) ≤ 2 := hle _ s3.le
  have hsec : sec3 D1.safe 1 8 1 = (1, 1, bodyS [R, R]) := by
    unfold sec3
    have hb : l2.base + l2.size ≤ D0.safe.length := s2.room
    have := settle_sec l2 1 1 (fun _ => 1) D0.safe hb (by decide) (by decide) 1 (by decide) (by decide) 1 (by decide)
    rw [if_pos (by decide), if_pos rfl] at this
    rw [r1, show (settleTo (fun _ => 1) (l2.pairs 1 1) D0.safe 1).getD (1 + 1 % 8) zero128 = _ from this]
    exact packed_slab3 hE2 (by omega) (Stands.bodies ok2 0 (by decide)).1
  have h2 : (1, 1, bodyS [R, R]) ∈ ring3 D1.safe 1 8 := by
    rw [← hsec]
    exact List.mem_map.2 ⟨0, by simp, rfl⟩
  have h3 := epochOf_gt h2
  simp only at h3
  omega
theorem mscan : (m.scan 0).length = 2 := by
  unfold Wl.scan Wl.all
  rw [msecs, show m.low = 1 from rfl]
  simp only [Wl.allFrom, entsOf, layR]
  rfl
theorem mnext : m.openNo = 2 := by
  unfold Wl.openNo Wl.end_
  rw [msecs, mfirst]
  rfl
theorem fate0 : D1.crash [] = D2 := rfl
end Aw5

end Go.Proofs.Ytpcfhpffbogjmaa

/- Package wal: the calls of a log that is none. -/
namespace Go.Proofs.Ytpcfhpffbogjmaa
open Go.RowKit

theorem lappend_nil {r : Rc} {v : Value} {w : World} (hv : IsRec w v r) : Calls Try.prog 16 #[.pointer none, v] w fun e w' => e = .returned (.tuple #[.int .i64 0, .int .i64 10]) ∧ Below w.heap.size w w' := by
  obtain ⟨vt, vp, rfl, _⟩ := hv
  unfold recV
  go_enter Try.func16, Try.ntmps16
  go_wp2
  go_ret2
  exact ⟨rfl, (Below.refl _ _).alloc (Nat.le_refl _) _⟩
theorem lflush_nil (w : World) : Calls Try.prog 17 #[.pointer none] w fun e w' => e = .returned (.int .i64 10) ∧ w = w' := by
  go_enter Try.func17, Try.ntmps17
  go_wp2
  go_ret
  exact ⟨rfl, rfl⟩
theorem lsafe_nil (at_ : Int) (w : World) : Calls Try.prog 20 #[.pointer none, .int .i64 at_] w fun e w' => e = .returned (.bool false) ∧ w = w' := by
  go_enter Try.func20, Try.ntmps20
  go_wp2
  go_ret
  exact ⟨rfl, rfl⟩
theorem lscan_nil (at_ : Int) (w : World) : Calls Try.prog 37 #[.pointer none, .int .i64 at_] w fun e w' => e = .returned (.slice none 0 0) ∧ w = w' := by
  go_enter Try.func37, Try.ntmps37
  go_wp2
  go_ret
  exact ⟨rfl, rfl⟩
theorem lcut_nil (at_ : Int) (w : World) : Calls Try.prog 24 #[.pointer none, .int .i64 at_] w fun e w' => e = .returned (.int .i64 10) ∧ w = w' := by
  go_enter Try.func24, Try.ntmps24
  go_wp2
  go_ret
  exact ⟨rfl, rfl⟩
theorem llow_nil (w : World) : Calls Try.prog 36 #[.pointer none] w fun e w' => e = .returned (.int .i64 0) ∧ w = w' := by
  go_enter Try.func36, Try.ntmps36
  go_wp2
  go_ret
  exact ⟨rfl, rfl⟩
theorem lnext_nil (w : World) : Calls Try.prog 19 #[.pointer none] w fun e w' => e = .returned (.int .i64 0) ∧ w = w' := by
  go_enter Try.func19, Try.ntmps19
  go_wp2
  go_ret
  exact ⟨rfl, rfl⟩
end Go.Proofs.Ytpcfhpffbogjmaa

/- Lists beside a log; careenlaw05.WalRises, walked. -/
namespace Go.Proofs.Ytpcfhpffbogjmaa
open Go.RowKit

/-- An entry's rows lie in blocks of a time before. -/
def OldR (B : Nat) (r : Rc) (vt vp : Value) : Prop := (rows3 r.txns ≠ [] → ∀ b, vt.ownBlock = some b → b < B) ∧ (rows2 r.pages ≠ [] → ∀ b, vp.ownBlock = some b → b < B)
theorem Lists.old {w : World} {r : Rc} {vt vp : Value} (h : Lists w r vt vp) : OldR w.heap.size r vt vp := ⟨fun hr => h.t.blt hr, fun hr => h.p.blt hr⟩
/-- A list of entries of one's own, beside a footprint. -/
structure KeptE (w0 w : World) (F : Foot) (v : Value) (q : List Qe) : Prop where
  own : OwnE w w0.heap.size v q
  old : ∀ x ∈ q, OldR w0.heap.size x.r x.vt x.vp
  apart : ∀ b, v.ownBlock = some b → ¬ F b
theorem Step.only {F F' : Foot} {w w' : World} (h : Step F F' w w') : Only F w w' := ⟨h.os, h.tape, h.output, h.size, h.block⟩
namespace KeptE
variable {w0 w w' : World} {F F' : Foot} {v : Value} {q : List Qe}
theorem nil (w0 w : World) (F : Foot) : KeptE w0 w F (.slice none 0 0) [] := ⟨OwnE.nil w _, fun x hx => by simp at hx, fun b hb => by simp [Value.ownBlock] at hb⟩
theorem step (h : KeptE w0 w F v q) (hs : Step F F' w w') (hn : ∀ b, F b → w0.heap.size ≤ b) : KeptE w0 w' F' v q :=
  ⟨⟨own_keep h.own.own fun b hb => hs.block b (h.own.own.lt b hb).2 (h.apart b hb), fun x hx => (h.own.lists x hx).keepA hs.only (fun hr b hb hF => by have := (h.old x hx).1 hr b hb; have := hn b hF; omega) (fun hr b hb hF => by have := (h.old x hx).2 hr b hb; have := hn b hF; omega), h.own.apart⟩, h.old,
    fun b hb hF => (hs.foot b hF).elim (h.apart b hb) fun hg => by have := (h.own.own.lt b hb).2; omega⟩
theorem more (h : KeptE w0 w F v q) (hb : Below w.heap.size w w') : KeptE w0 w' F v q := ⟨h.own.keep hb, h.old, h.apart⟩
theorem foot (h : KeptE w0 w F v q) (hF : ∀ b, F' b → F b ∨ w.heap.size ≤ b) : KeptE w0 w F' v q := ⟨h.own, h.old, fun b hb hF' => (hF b hF').elim (h.apart b hb) fun hg => by have := (h.own.own.lt b hb).2; omega⟩
/-- One more entry. -/
theorem pushed {FD FL : Foot} {g gd : Nat} {D : Dk} {l : Wl} (h : KeptE w0 w (Both FD FL) v q) (L : LiveL w0 w FD FL g gd D l) {x : Qe} (hl : Lists w x.r x.vt x.vp) (hx : OldR w0.heap.size x.r x.vt x.vp) {gg cap : Nat} (ho : w'.ownsRow w0.heap.size 58 12 (.slice (some ⟨gg, 0, none⟩) (q.length + 1) cap) (q.length + 1) (entsV q ++ x.cells))
    (hg : w.grownBy w' v.ownBlock) (hat : v.ownBlock = some gg ∨ gg = w.heap.size) : LiveL w0 w' FD FL g gd D l ∧ KeptE w0 w' (Both FD FL) (.slice (some ⟨gg, 0, none⟩) (q.length + 1) cap) (q ++ [x]) := by
  have hon : Only (fun b => v.ownBlock = some b) w w' := (Only.refl _ w).grown hg fun b hb => .inl hb
  refine ⟨L.only hon (fun b hF hv => h.apart b hv hF) fun b hb => (h.own.own.lt b hb).1, h.own.pushed hl (fun b hb => ⟨fun hr hv => by have := hx.1 hr b hv; have := (h.own.own.lt b hb).1; omega, fun hr hv => by have := hx.2 hr b hv; have := (h.own.own.lt b hb).1; omega⟩) ho hg hat, fun y hy => ?_, fun b hb hF => ?_⟩
  · rcases List.mem_append.1 hy with hy | hy
    · exact h.old y hy
    · simp at hy; subst hy; exact hx
  · simp only [Value.ownBlock, Option.some.injEq] at hb
    subst hb
    rcases hat with hat | hat
    · exact h.apart _ hat hF
    · rcases hF with hF | hF
      · have := L.sys.disk.lt _ hF; omega
      · have := L.sys.log.lt _ hF; omega
end KeptE

/-- The state of WalRises behind some of its records. -/
structure RisesAt (w0 w : World) (g gd : Nat) (from_ : Int) (m : Nat) (last : Int) (vall : Value) : Prop where
  ex : ∃ (FD FL : Foot) (D : Dk) (l : Wl) (q : List Qe), LiveL w0 w FD FL g gd D l ∧ Calm D l 64 1 ∧ KeptE w0 w (Both FD FL) vall q ∧ q.map Qe.ent = l.scan from_ ∧ q.length ≤ m ∧ (last = 0 ∨ ∃ x ∈ l.all, x.1 = last)

end Go.Proofs.Ytpcfhpffbogjmaa
