/- Texts that belong together, joined: Pl8, MapB, PoA, PoB, PoC. -/
import Derived.Test.YtbplgbkbggmaeaaGreatKso
import Derived.Test.YtbplgbkbggmaeaaGreatKwal
import Derived.Test.YtbplgbkbggmaeaaGreatKbase
import Derived.Test.YtbplgbkbggmaeaaGreatKsob
namespace Go.Proofs.YtbplgbkbggmaeaaGreat
open Go.RowKit
structure Fr8 where
 no : Nat
 pg : Pag
 dirty : Bool
 since : Int
abbrev Frs := List (Option Fr8)
def isNo (i : Int) : Option Fr8 → Bool
 | some f => (f.no : Int) == i
 | none => false
def holds (l : Frs) (i : Int) : Option Nat := l.findIdx? (isNo i)
def Uniq (l : Frs) : Prop := ∀ (j k : Nat) (f g : Fr8), l[j]? = some (some f) → l[k]? = some (some g) → f.no = g.no → j = k
theorem isNo_iff {i : Int} {x : Option Fr8} : isNo i x = true ↔ ∃ f, x = some f ∧ (f.no : Int) = i := by
 cases x with
 | none => simp [isNo]
 | some f => simp [isNo]
theorem holds_some {l : Frs} {i : Int} {k : Nat} (h : holds l i = some k) : ∃ f, l[k]? = some (some f) ∧ (f.no : Int) = i := by
 unfold holds at h
 rw [List.findIdx?_eq_some_iff_getElem] at h
 obtain ⟨hk, h1, _⟩ := h
 obtain ⟨f, hf, hi⟩ := isNo_iff.1 h1
 exact ⟨f, by rw [List.getElem?_eq_getElem hk, hf], hi⟩
theorem holds_none {l : Frs} {i : Int} (h : holds l i = none) : ∀ (k : Nat) (f : Fr8), l[k]? = some (some f) → (f.no : Int) ≠ i := by
 intro k f hk hi
 unfold holds at h
 rw [List.findIdx?_eq_none_iff] at h
 have := h (some f) (List.mem_of_getElem? hk)
 rw [isNo_iff.2 ⟨f, rfl, hi⟩] at this
 cases this
theorem holds_of {l : Frs} (hu : Uniq l) {k : Nat} {f : Fr8} (hk : l[k]? = some (some f)) : holds l f.no = some k := by
 cases h : holds l f.no with
 | none => exact absurd rfl (holds_none h k f hk)
 | some j =>
   obtain ⟨g, hg, hi⟩ := holds_some h
   rw [hu j k g f hg hk (by omega)]
theorem holds_lt {l : Frs} {i : Int} {k : Nat} (h : holds l i = some k) : k < l.length := by
 obtain ⟨f, hf, _⟩ := holds_some h
 exact (List.getElem?_eq_some_iff.1 hf).1
theorem getElem?_set_frs (l : Frs) (k : Nat) (x : Option Fr8) (j : Nat) : (l.set k x)[j]? = if k = j then (if j < l.length then some x else none) else l[j]? := by
 rw [List.getElem?_set]
 split
 · rename_i h; subst h; rfl
 · rfl
theorem uniq_set_none {l : Frs} (hu : Uniq l) (k : Nat) : Uniq (l.set k none) := by
 intro a b f g ha hb e
 rw [getElem?_set_frs] at ha hb
 split at ha
 · split at ha <;> cases ha
 · split at hb
   · split at hb <;> cases hb
   · exact hu a b f g ha hb e
theorem uniq_set {l : Frs} (hu : Uniq l) {k : Nat} {f : Fr8} (hn : ∀ (j : Nat) (g : Fr8), l[j]? = some (some g) → g.no = f.no → j = k) : Uniq (l.set k (some f)) := by
 intro a b x y ha hb e
 rw [getElem?_set_frs] at ha hb
 split at ha
 · rename_i hka
   split at ha
   · cases ha
     split at hb
     · rename_i hkb; omega
     · rw [hn b y hb e.symm, hka]
   · cases ha
 · split at hb
   · rename_i hkb
     split at hb
     · cases hb
       rw [hn a x ha e, hkb]
     · cases hb
   · exact hu a b x y ha hb e
theorem holds_iff {l : Frs} (hu : Uniq l) {i : Int} {k : Nat} : holds l i = some k ↔ ∃ f, l[k]? = some (some f) ∧ (f.no : Int) = i :=
 ⟨holds_some, fun ⟨f, hf, hi⟩ => by subst hi; exact holds_of hu hf⟩
theorem opt_ext {α : Type} {a b : Option α} (h : ∀ x, a = some x ↔ b = some x) : a = b := by
 cases a with
 | none => cases b with
   | none => rfl
   | some y => exact absurd ((h y).2 rfl) (by simp)
 | some x => exact ((h x).1 rfl).symm
theorem holds_drop {l : Frs} (hu : Uniq l) {k : Nat} {f : Fr8} (hk : l[k]? = some (some f)) (c : Int) : holds (l.set k none) c = if c = (f.no : Int) then none else holds l c := by
 apply opt_ext
 intro j
 rw [holds_iff (uniq_set_none hu k)]
 simp only [getElem?_set_frs]
 constructor
 · rintro ⟨g, hg, hi⟩
   split at hg
   · split at hg <;> cases hg
   · rename_i hkj
     rw [if_neg (fun e => hkj (hu k j f g hk hg (by omega)))]
     exact (holds_iff hu).2 ⟨g, hg, hi⟩
 · intro h
   split at h
   · cases h
   · rename_i hc
     obtain ⟨g, hg, hi⟩ := (holds_iff hu).1 h
     refine ⟨g, ?_, hi⟩
     rw [if_neg (fun e => hc (by subst e; rw [hk] at hg; cases hg; exact hi.symm))]
     exact hg
theorem holds_put {l : Frs} (hu : Uniq l) {k : Nat} (hk : k < l.length) (he : l[k]? = some none) {f : Fr8} (hn : holds l f.no = none) (c : Int) : holds (l.set k (some f)) c = if c = (f.no : Int) then some k else holds l c := by
 have hu' : Uniq (l.set k (some f)) := uniq_set hu fun j g hg e => absurd (by omega) (holds_none hn j g hg)
 apply opt_ext
 intro j
 rw [holds_iff hu']
 simp only [getElem?_set_frs]
 constructor
 · rintro ⟨g, hg, hi⟩
   split at hg
   · rename_i hkj
     rw [if_pos (by omega)] at hg
     cases hg
     rw [if_pos hi.symm, hkj]
   · rw [if_neg (fun e => absurd (by omega) (holds_none hn j g hg))]
     exact (holds_iff hu).2 ⟨g, hg, hi⟩
 · intro h
   split at h
   · rename_i hc
     cases h
     exact ⟨f, by rw [if_pos rfl, if_pos hk], hc.symm⟩
   · rename_i hc
     obtain ⟨g, hg, hi⟩ := (holds_iff hu).1 h
     refine ⟨g, ?_, hi⟩
     rw [if_neg (fun e => by subst e; rw [he] at hg; cases hg)]
     exact hg
theorem holds_same {l : Frs} (hu : Uniq l) {k : Nat} {f f' : Fr8} (hk : l[k]? = some (some f)) (hf : f'.no = f.no) (c : Int) : holds (l.set k (some f')) c = holds l c := by
 have hlt := (List.getElem?_eq_some_iff.1 hk).1
 have hu' : Uniq (l.set k (some f')) := uniq_set hu fun j g hg e => (hu k j f g hk hg (by omega)).symm
 apply opt_ext
 intro j
 rw [holds_iff hu', holds_iff hu]
 simp only [getElem?_set_frs]
 constructor
 · rintro ⟨g, hg, hi⟩
   split at hg
   · rename_i hkj
     rw [if_pos (by omega)] at hg
     cases hg
     subst hkj
     exact ⟨f, hk, by omega⟩
   · exact ⟨g, hg, hi⟩
 · rintro ⟨g, hg, hi⟩
   by_cases hkj : k = j
   · subst hkj
     rw [hk] at hg
     cases hg
     exact ⟨f', by rw [if_pos rfl, if_pos hlt], by omega⟩
   · exact ⟨g, by rw [if_neg hkj]; exact hg, hi⟩
theorem holds_empty (n : Nat) (i : Int) : holds (List.replicate n none) i = none := by
 unfold holds
 rw [List.findIdx?_eq_none_iff]
 intro x hx
 rw [List.eq_of_mem_replicate hx]
 rfl
theorem uniq_empty (n : Nat) : Uniq (List.replicate n none) := by
 intro j k f g hj
 have := List.mem_of_getElem? hj
 have := List.eq_of_mem_replicate this
 cases this
def free (l : Frs) : Option Nat := l.findIdx? fun x => x.isNone
structure Y8 where
 D : Dk
 t : Nat
 lg : Wl
 l : Frs
 hand : Nat
 P : Nat → Pag
def Wl.safeAt (l : Wl) (a : Int) : Prop := a.toNat / 128 < l.first
instance (l : Wl) (a : Int) : Decidable (l.safeAt a) := inferInstanceAs (Decidable (_ < _))
namespace Y8
def aheadY (Y : Y8) (a : Int) : Y8 × Nat := if Y.lg.safeAt a then (Y, 0) else ({ Y with D := (Y.lg.flush Y.D).1, lg := (Y.lg.flush Y.D).2.1 }, (Y.lg.flush Y.D).2.2)
def writeY (base : Nat) (Y : Y8) (i : Nat) (p : Pag) : Y8 × Nat :=
 ({ Y with D := (acts ((writeSA i Y.t p).map (SA.act base)) Y.D).1, t := Y.t + 1, P := if (acts ((writeSA i Y.t p).map (SA.act base)) Y.D).2 = 0 then putP Y.P i p else Y.P }, (acts ((writeSA i Y.t p).map (SA.act base)) Y.D).2)
def saveY (base : Nat) (Y : Y8) (f : Fr8) : Y8 × Nat := if (Y.aheadY f.pg.1).2 = 0 then (Y.aheadY f.pg.1).1.writeY base f.no f.pg else Y.aheadY f.pg.1
def releaseY (Y : Y8) (k : Nat) : Y8 := { Y with l := Y.l.set k none }
def emptyY (base : Nat) (Y : Y8) (k : Nat) (f : Fr8) : Y8 × Nat :=
 if f.dirty then (if (Y.saveY base f).2 = 0 then ((Y.saveY base f).1.releaseY k, 0) else Y.saveY base f) else (Y.releaseY k, 0)
end Y8
/-! What stays true of it. -/
structure Ok8 (base n : Nat) (Y : Y8) : Prop where
 len1 : 1 ≤ Y.l.length
 len8 : Y.l.length ≤ 8
 hand : Y.hand < Y.l.length
 uniq : Uniq Y.l
 fr : ∀ (k : Nat) (f : Fr8), Y.l[k]? = some (some f) → f.no < n ∧ f.pg.Right
 n1 : 1 ≤ n
 n8 : n ≤ 8
 dk : Y.D.Ok
 lok : Y.lg.Ok
 ep : Y.lg.epoch < 4294967296
 room : base + (3 + 2 * n) ≤ Y.D.safe.length
 above : base + (3 + 2 * n) ≤ Y.lg.base
 ring : Y.lg.base + Y.lg.size ≤ Y.D.safe.length
 alive : (Y.D.gone = true ∧ Y.D.waits.length ≤ 1000) ∨ ∃ σ, Calm7 Y.D base n Y.t Y.P σ
theorem emptyPg_right : emptyPg.Right := ⟨⟨by decide, by decide⟩, noughts_size⟩
theorem Calm7.right {D : Dk} {base n t : Nat} {P : Nat → Pag} {σ : Sg} (h : Calm7 D base n t P σ) {i : Nat} (hi : i < n) : (P i).Right := by
 rcases h.all.homes i hi with ⟨_, _, e⟩ | ⟨e, _⟩
 · rw [e]; exact emptyPg_right
 · exact e
theorem acts_ok : ∀ (l : List Act7) (D : Dk), D.Ok → (acts l D).1.Ok
 | [], _, h => h
 | a :: l, D, h => by
   have hon : (a.on D).Ok := by
     cases a with
     | w i s => exact h.write i s
     | sync => exact h.sync
   rw [acts_cons]
   split
   · exact acts_ok l _ hon
   · exact hon
theorem acts_gone {a : Act7} {l : List Act7} {D : Dk} (hf : a.fits D.safe.length) (hg : D.gone = true) : acts (a :: l) D = (D, 4) := by
 obtain ⟨h1, h2⟩ := act_no hf (.inl hg)
 have e : ({ D with gone := true } : Dk) = D := by cases D; simp only at hg; rw [hg]
 rw [acts_cons, if_neg (by omega), h1, h2, e]
theorem effs_waits : ∀ (l : List Act7) (x : List ByteArray × List (Nat × ByteArray)), (effs l x).2.length ≤ x.2.length + l.length
 | [], x => Nat.le_refl _
 | a :: l, x => by
   have := effs_waits l (a.eff x)
   cases a with
   | w i s => simp only [Act7.eff, List.length_append, List.length_singleton] at this; simp only [effs, List.length_cons, Act7.eff]; omega
   | sync => simp only [Act7.eff, List.length_nil] at this; simp only [effs, List.length_cons, Act7.eff]; omega
theorem acts_alive (l : List Act7) (D : Dk) (hf : ∀ a ∈ l, a.fits D.safe.length) (hg : D.gone = false) :
   acts l D = (⟨(effs l (D.safe, D.waits)).1, (effs l (D.safe, D.waits)).2, false, D.fuse.map (· - l.length)⟩, 0) ∨
   ((acts l D).2 = 4 ∧ (acts l D).1.gone = true ∧ (acts l D).1.waits.length ≤ D.waits.length + l.length ∧ (acts l D).1.safe.length = D.safe.length ∧ D.fuse ≠ none) := by
 by_cases h : ∀ m, D.fuse = some m → l.length ≤ m
 · exact .inl (acts_all l D hf hg h)
 · have ⟨m, hm, hl⟩ : ∃ m, D.fuse = some m ∧ m < l.length := Classical.byContradiction fun hn => h fun m hm => Nat.le_of_not_lt fun hl => hn ⟨m, hm, hl⟩
   rw [acts_cut l D m hf hg hm hl]
   refine .inr ⟨rfl, rfl, ?_, effs_len _ _, by rw [hm]; simp⟩
   have := effs_waits (l.take m) (D.safe, D.waits)
   rw [List.length_take] at this
   simp only at this ⊢
   omega
/-! A flush as writes and a sync. -/
def Wl.flushA (l : Wl) : List Act7 := ((List.range' l.first (l.end_ - l.first)).map fun q => Act7.w (l.place q) (l.sector q)) ++ [.sync]
theorem writes_acts (l : Wl) : ∀ (c : Nat) (D : Dk) (k : Nat), l.writes D k c = acts ((List.range' k c).map fun q => Act7.w (l.place q) (l.sector q)) D
 | 0, _, _ => rfl
 | c + 1, D, k => by
   rw [List.range'_succ, List.map_cons, acts_cons, Wl.writes, writes_acts l c _ (k + 1)]
   rfl
theorem flush_acts (l : Wl) (D : Dk) : l.flush D = if l.end_ = l.first then (D, l, 0) else ((acts l.flushA D).1, if (acts l.flushA D).2 = 0 then { l with first := l.end_ } else l, (acts l.flushA D).2) := by
 unfold Wl.flush Wl.flushA
 by_cases he : l.end_ = l.first
 · rw [if_pos he, if_pos he]
 · rw [if_neg he, if_neg he, acts_app, ← writes_acts]
   by_cases h0 : (l.writes D l.first (l.end_ - l.first)).2 = 0
   · rw [if_neg (by rw [h0]; simp), if_pos h0, acts_cons]
     show (if (l.writes D l.first (l.end_ - l.first)).1.syncE ≠ 0 then _ else _) = _
     by_cases h1 : (l.writes D l.first (l.end_ - l.first)).1.syncE = 0
     · have e : (Act7.sync).err (l.writes D l.first (l.end_ - l.first)).1 = 0 := h1
       rw [if_neg (by rw [h1]; simp), if_pos e]
       rfl
     · have e : ¬ (Act7.sync).err (l.writes D l.first (l.end_ - l.first)).1 = 0 := h1
       rw [if_pos h1, if_neg e]
       show _ = (_, if (l.writes D l.first (l.end_ - l.first)).1.syncE = 0 then _ else _, _)
       rw [if_neg h1]
       rfl
   · rw [if_pos h0, if_neg h0, if_neg h0]
theorem flushA_fits {l : Wl} (ok : l.Ok) {N : Nat} (hr : l.base + l.size ≤ N) : ∀ a ∈ l.flushA, a.fits N := by
 intro a ha
 unfold Wl.flushA at ha
 rcases List.mem_append.1 ha with ha | ha
 · obtain ⟨q, hq, rfl⟩ := List.mem_map.1 ha
   rw [List.mem_range'] at hq
   obtain ⟨i, hi, rfl⟩ := hq
   refine ⟨?_, ?_⟩
   · have := Nat.mod_lt (l.first + 1 * i) (show 0 < l.size by have := ok.s8; omega)
     unfold Wl.place
     omega
   · unfold Wl.sector
     have hk : l.first + 1 * i - l.low < l.secs.length := by have := ok.fl; unfold Wl.end_ at hi; omega
     refine packed_size ?_
     rw [bodyS_size]
     refine (ok.sec _ ?_).2.2
     rw [List.getD_eq_getElem?_getD, List.getElem?_eq_getElem hk]
     exact List.getElem_mem hk
 · simp at ha; subst ha; trivial
theorem effs_ws : ∀ (ws : List (Nat × ByteArray)) (x : List ByteArray × List (Nat × ByteArray)), effs (ws.map fun z => Act7.w z.1 z.2) x = (x.1, x.2 ++ ws)
 | [], x => by simp [effs]
 | z :: ws, x => by
   simp only [List.map_cons, effs, effs_ws ws, Act7.eff]
   simp
theorem Lies.far {D D' : Dk} {base n : Nat} {σ : Sg} (h : Lies D base n σ) (ok : D'.Ok) (hw : D'.waits = []) (hg : D'.gone = false) (hl : D'.safe.length = D.safe.length) (hs : ∀ i, i < base + (3 + 2 * n) → D'.safe.getD i zero128 = D.safe.getD i zero128) : Lies D' base n σ :=
 ⟨ok, ⟨by rw [hl]; exact h.rep.room, fun k hk => by rw [hs _ (by omega)]; exact h.rep.sec k hk⟩, hw, hg⟩
theorem Calm7.flush {D : Dk} {base n t : Nat} {P : Nat → Pag} {σ : Sg} {l : Wl} (h : Calm7 D base n t P σ) (ok : l.Ok) (hr : l.base + l.size ≤ D.safe.length) (ha : base + (3 + 2 * n) ≤ l.base) :
   ((l.flush D).2.2 = 0 ∧ (l.flush D).2.1 = { l with first := l.end_ } ∧ Calm7 (l.flush D).1 base n t P σ ∧ (l.flush D).1.safe.length = D.safe.length ∧ (D.fuse = none → (l.flush D).1.fuse = none)) ∨
   ((l.flush D).2.2 = 4 ∧ (l.flush D).2.1 = l ∧ (l.flush D).1.gone = true ∧ (l.flush D).1.waits.length ≤ 65 ∧ (l.flush D).1.safe.length = D.safe.length ∧ (l.flush D).1.Ok ∧ D.fuse ≠ none) := by
 rw [flush_acts]
 by_cases he : l.end_ = l.first
 · rw [if_pos he]
   exact .inl ⟨rfl, by rw [he], h, rfl, id⟩
 · rw [if_neg he]
   have hlen : l.flushA.length ≤ 65 := by
     unfold Wl.flushA
     have := ok.len; have := ok.s64; have := ok.fl
     simp only [List.length_append, List.length_map, List.length_range', List.length_singleton]
     unfold Wl.end_
     omega
   rcases acts_alive l.flushA D (flushA_fits ok hr) h.lies.gone with e | ⟨e1, e2, e3, e4, e5⟩
   · have hok := acts_ok l.flushA D h.lies.ok
     rw [e] at hok
     have hlen2 : (effs l.flushA (D.safe, D.waits)).1.length = D.safe.length := effs_len _ _
     rw [e]
     refine .inl ⟨rfl, by simp, ⟨h.lies.far hok ?_ rfl hlen2 ?_, h.all, h.tidy⟩, hlen2, fun hf => by simp only [hf]; rfl⟩
     · unfold Wl.flushA
       rw [effs_app]
       rfl
     · intro i hi
       show (effs l.flushA (D.safe, D.waits)).1.getD i zero128 = _
       unfold Wl.flushA
       rw [effs_app, show ((List.range' l.first (l.end_ - l.first)).map fun q => Act7.w (l.place q) (l.sector q)) = (((List.range' l.first (l.end_ - l.first)).map fun q => (l.place q, l.sector q)).map fun z => Act7.w z.1 z.2) by rw [List.map_map]; rfl, effs_ws, h.lies.waits, List.nil_append]
       show (settleTo (fun _ => 1) _ D.safe _).getD i zero128 = _
       rcases settle_some (fun _ => 1) ((List.range' l.first (l.end_ - l.first)).map fun q => (l.place q, l.sector q)) D.safe i _ with h1 | ⟨x, hx, h1, _⟩
       · exact h1
       · obtain ⟨q, _, rfl⟩ := List.mem_map.1 hx
         simp only [Wl.place] at h1
         omega
   · refine .inr ⟨e1, if_neg (by rw [e1]; decide), e2, ?_, e4, acts_ok _ _ h.lies.ok, e5⟩
     rw [h.lies.waits] at e3
     simp only [List.length_nil] at e3
     show (acts l.flushA D).1.waits.length ≤ 65
     omega
theorem flush_gone {D : Dk} {l : Wl} (hg : D.gone = true) (ok : l.Ok) (hr : l.base + l.size ≤ D.safe.length) : l.flush D = (D, l, if l.end_ = l.first then 0 else 4) := by
 rw [flush_acts]
 by_cases he : l.end_ = l.first
 · rw [if_pos he, if_pos he]
 · rw [if_neg he, if_neg he]
   have hf := flushA_fits ok hr
   cases hA : l.flushA with
   | nil => unfold Wl.flushA at hA; simp at hA
   | cons a L =>
     rw [acts_gone (hf a (by rw [hA]; simp)) hg]
     rfl
theorem writeSA_fit {D : Dk} {base n t i : Nat} {p : Pag} (hr : base + (3 + 2 * n) ≤ D.safe.length) (hi : i < n) (hp : p.Right) : ∀ a ∈ (writeSA i t p).map (SA.act base), a.fits D.safe.length := fun a ha => by
 obtain ⟨q, hq, rfl⟩ := List.mem_map.1 ha
 have := writeSA_fits (t := t) hi hp q hq
 cases q with
 | w k x => exact ⟨by have := this.1; omega, secOf_size this.2⟩
 | sync => trivial
namespace Ok8
variable {base n : Nat} {Y : Y8}
theorem frame (h : Ok8 base n Y) {l : Frs} (hl : l.length = Y.l.length) (hu : Uniq l) (hf : ∀ (k : Nat) (f : Fr8), l[k]? = some (some f) → f.no < n ∧ f.pg.Right) : Ok8 base n { Y with l := l } :=
 ⟨by rw [hl]; exact h.len1, by rw [hl]; exact h.len8, by rw [hl]; exact h.hand, hu, hf, h.n1, h.n8, h.dk, h.lok, h.ep, h.room, h.above, h.ring, h.alive⟩
theorem release (h : Ok8 base n Y) (k : Nat) : Ok8 base n (Y.releaseY k) :=
 h.frame (by simp) (uniq_set_none h.uniq k) fun j f hj => by
   rw [getElem?_set_frs] at hj
   split at hj
   · split at hj <;> cases hj
   · exact h.fr j f hj
theorem setHand (h : Ok8 base n Y) {k : Nat} (hk : k < Y.l.length) : Ok8 base n { Y with hand := k } :=
 ⟨h.len1, h.len8, hk, h.uniq, h.fr, h.n1, h.n8, h.dk, h.lok, h.ep, h.room, h.above, h.ring, h.alive⟩
theorem ahead (h : Ok8 base n Y) (a : Int) : Ok8 base n (Y.aheadY a).1 ∧ ((Y.aheadY a).2 = 0 ∨ (Y.aheadY a).2 = 4) ∧ (Y.aheadY a).1.l = Y.l ∧ (Y.aheadY a).1.hand = Y.hand ∧ (Y.aheadY a).1.t = Y.t ∧ (Y.aheadY a).1.P = Y.P := by
 unfold Y8.aheadY
 by_cases hs : Y.lg.safeAt a
 · rw [if_pos hs]
   exact ⟨h, .inl rfl, rfl, rfl, rfl, rfl⟩
 · rw [if_neg hs]
   rcases h.alive with ⟨hg, hw⟩ | ⟨σ, hc⟩
   · rw [flush_gone hg h.lok h.ring]
     exact ⟨⟨h.len1, h.len8, h.hand, h.uniq, h.fr, h.n1, h.n8, h.dk, h.lok, h.ep, h.room, h.above, h.ring, .inl ⟨hg, hw⟩⟩, by show (if _ then _ else _) = _ ∨ (if _ then _ else _) = _; split <;> simp, rfl, rfl, rfl, rfl⟩
   · rcases hc.flush h.lok h.ring h.above with ⟨e1, e2, e3, e4, e5⟩ | ⟨e1, e2, e3, e4, e5, e6, _⟩
     · refine ⟨⟨h.len1, h.len8, h.hand, h.uniq, h.fr, h.n1, h.n8, e3.lies.ok, ?_, ?_, ?_, ?_, ?_, .inr ⟨σ, e3⟩⟩, .inl e1, rfl, rfl, rfl, rfl⟩
       · show (Y.lg.flush Y.D).2.1.Ok; rw [e2]; exact h.lok.flushed
       · show (Y.lg.flush Y.D).2.1.epoch < _; rw [e2]; exact h.ep
       · show _ ≤ (Y.lg.flush Y.D).1.safe.length; rw [e4]; exact h.room
       · show _ ≤ (Y.lg.flush Y.D).2.1.base; rw [e2]; exact h.above
       · show (Y.lg.flush Y.D).2.1.base + (Y.lg.flush Y.D).2.1.size ≤ (Y.lg.flush Y.D).1.safe.length; rw [e2, e4]; exact h.ring
     · refine ⟨⟨h.len1, h.len8, h.hand, h.uniq, h.fr, h.n1, h.n8, e6, ?_, ?_, ?_, ?_, ?_, .inl ⟨e3, by show (Y.lg.flush Y.D).1.waits.length ≤ _; omega⟩⟩, .inr e1, rfl, rfl, rfl, rfl⟩
       · show (Y.lg.flush Y.D).2.1.Ok; rw [e2]; exact h.lok
       · show (Y.lg.flush Y.D).2.1.epoch < _; rw [e2]; exact h.ep
       · show _ ≤ (Y.lg.flush Y.D).1.safe.length; rw [e5]; exact h.room
       · show _ ≤ (Y.lg.flush Y.D).2.1.base; rw [e2]; exact h.above
       · show (Y.lg.flush Y.D).2.1.base + (Y.lg.flush Y.D).2.1.size ≤ (Y.lg.flush Y.D).1.safe.length; rw [e2, e5]; exact h.ring
theorem write (h : Ok8 base n Y) {i : Nat} {p : Pag} (hi : i < n) (hp : p.Right) : Ok8 base n (Y.writeY base i p).1 ∧ ((Y.writeY base i p).2 = 0 ∨ (Y.writeY base i p).2 = 4) := by
 have hfit := writeSA_fit (t := Y.t) h.room hi hp
 have hlen := acts_len _ _ hfit
 have hok := acts_ok ((writeSA i Y.t p).map (SA.act base)) Y.D h.dk
 have hl8 : ((writeSA i Y.t p).map (SA.act base)).length = 8 := rfl
 unfold Y8.writeY
 rcases h.alive with ⟨hg, hw⟩ | ⟨σ, hc⟩
 · have e : acts ((writeSA i Y.t p).map (SA.act base)) Y.D = (Y.D, 4) := acts_gone (l := ((writeSA i Y.t p).map (SA.act base)).tail) (hfit _ (List.mem_cons_self)) hg
   rw [e]
   exact ⟨⟨h.len1, h.len8, h.hand, h.uniq, h.fr, h.n1, h.n8, h.dk, h.lok, h.ep, h.room, h.above, h.ring, .inl ⟨hg, hw⟩⟩, .inr rfl⟩
 · by_cases hm : ∀ m, Y.D.fuse = some m → 8 ≤ m
   · obtain ⟨D', σ', k1, k2, k3, k4, _⟩ := hc.write h.n8 hi hp hm
     rw [k1] at hok ⊢
     exact ⟨⟨h.len1, h.len8, h.hand, h.uniq, h.fr, h.n1, h.n8, hok, h.lok, h.ep, by show _ ≤ D'.safe.length; rw [k4]; exact h.room, h.above, by show _ ≤ D'.safe.length; rw [k4]; exact h.ring, .inr ⟨σ', k2⟩⟩, .inl rfl⟩
   · have ⟨m, hf, hl⟩ : ∃ m, Y.D.fuse = some m ∧ m < 8 := Classical.byContradiction fun hn => hm fun m hm => Nat.le_of_not_lt fun hl => hn ⟨m, hm, hl⟩
     obtain ⟨D', σ', k1, k2, k3, k4, _⟩ := hc.cut h.n8 hi hp m hf hl []
     rw [k1] at hlen hok ⊢
     exact ⟨⟨h.len1, h.len8, h.hand, h.uniq, h.fr, h.n1, h.n8, hok, h.lok, h.ep, by show _ ≤ D'.safe.length; rw [hlen.1]; exact h.room, h.above, by show _ ≤ D'.safe.length; rw [hlen.1]; exact h.ring, .inl ⟨k2, by show D'.waits.length ≤ _; omega⟩⟩, .inr rfl⟩
theorem writeY_same (Y : Y8) (base i : Nat) (p : Pag) : (Y.writeY base i p).1.l = Y.l ∧ (Y.writeY base i p).1.hand = Y.hand ∧ (Y.writeY base i p).1.t = Y.t + 1 ∧ (Y.writeY base i p).1.lg = Y.lg := ⟨rfl, rfl, rfl, rfl⟩
theorem save (h : Ok8 base n Y) {k : Nat} {f : Fr8} (hk : Y.l[k]? = some (some f)) : Ok8 base n (Y.saveY base f).1 ∧ ((Y.saveY base f).2 = 0 ∨ (Y.saveY base f).2 = 4) ∧ (Y.saveY base f).1.l = Y.l ∧ (Y.saveY base f).1.hand = Y.hand ∧ (Y.saveY base f).1.t ≤ Y.t + 1 := by
 obtain ⟨a1, a2, a3, a4, a5, a6⟩ := h.ahead f.pg.1
 obtain ⟨f1, f2⟩ := h.fr k f hk
 unfold Y8.saveY
 split
 · obtain ⟨b1, b2⟩ := a1.write f1 f2
   obtain ⟨c1, c2, c3, c4⟩ := writeY_same (Y.aheadY f.pg.1).1 base f.no f.pg
   exact ⟨b1, b2, c1.trans a3, c2.trans a4, by rw [c3, a5]; exact Nat.le_refl _⟩
 · exact ⟨a1, a2, a3, a4, by rw [a5]; omega⟩
theorem empty (h : Ok8 base n Y) {k : Nat} {f : Fr8} (hk : Y.l[k]? = some (some f)) : Ok8 base n (Y.emptyY base k f).1 ∧ ((Y.emptyY base k f).2 = 0 ∨ (Y.emptyY base k f).2 = 4) ∧ (Y.emptyY base k f).1.hand = Y.hand ∧ (Y.emptyY base k f).1.t ≤ Y.t + 1 ∧
   (Y.emptyY base k f).1.l = if (Y.emptyY base k f).2 = 0 then Y.l.set k none else Y.l := by
 obtain ⟨a1, a2, a3, a4, a5⟩ := h.save hk
 unfold Y8.emptyY
 by_cases hd : f.dirty
 · rw [if_pos hd]
   by_cases h0 : (Y.saveY base f).2 = 0
   · rw [if_pos h0]
     exact ⟨a1.release k, .inl rfl, a4, a5, by rw [if_pos rfl]; show (Y.saveY base f).1.l.set k none = _; rw [a3]⟩
   · rw [if_neg h0]
     exact ⟨a1, a2, a4, a5, by rw [if_neg h0]; exact a3⟩
 · rw [if_neg hd]
   exact ⟨h.release k, .inl rfl, rfl, by show Y.t ≤ _; omega, by rw [if_pos rfl]; rfl⟩
end Ok8
end Go.Proofs.YtbplgbkbggmaeaaGreat

namespace Go.Proofs.YtbplgbkbggmaeaaGreat
open Go.RowKit Go.MapKept
def BMap (w : World) (b : Nat) (f : Int → Option Value) : Prop :=
 ∃ es clock, w.heap[b]? = some (.map es clock) ∧ Entries es.toList ∧ (∀ i, findAt es.toList i = f i) ∧ Stamped es clock
namespace BMap
variable {P : Program} {w w' : World} {b : Nat} {f : Int → Option Value}
theorem isMap (h : BMap w b f) : IsMap w b f := by obtain ⟨es, c, hb, h, k, _⟩ := h; exact ⟨es, c, hb, h, k⟩
theorem lt (h : BMap w b f) : b < w.heap.size := h.isMap.lt
theorem keep (h : BMap w b f) (e : w'.heap[b]? = w.heap[b]?) : BMap w' b f := by obtain ⟨es, c, hb, h⟩ := h; exact ⟨es, c, e.trans hb, h⟩
theorem drew (h : BMap w b f) : BMap w.drew b f := h.keep rfl
theorem congr {g : Int → Option Value} (h : BMap w b f) (e : ∀ i, f i = g i) : BMap w b g := by obtain ⟨es, c, hb, h, k, s⟩ := h; exact ⟨es, c, hb, h, fun i => (k i).trans (e i), s⟩
theorem made (w : World) : BMap (w.alloc (.map #[] 0)) w.heap.size fun _ => none := ⟨#[], 0, (heap_alloc w _).1, .none, fun _ => rfl, stamped_empty 0⟩
theorem cells {g : Nat} {t : TypeId} {cs : Array Value} (h : BMap w b f) (k : Blk w g t cs) : g ≠ b := h.isMap.cells k
variable {t kt et : TypeId} (ht : P.underlying t = some (.map kt et)) (hk : P.underlying kt = some (.int .i64))
include ht hk
theorem put (h : BMap w b f) (i : Int) (v : Value) :
   ∃ o, (Instr.mapUpdate t (.map (some b)) (.int .i64 i) v).run P w = .ok () { w with heap := w.heap.setIfInBounds b o } ∧ BMap { w with heap := w.heap.setIfInBounds b o } b fun c => if c = i then some v else f c := by
 obtain ⟨es, clock, hb, F, hf, hs⟩ := h
 rcases findNow_spec (d := .int .i64) (k := .int .i64 i) (by simp [IsKey]) es.toList 0 F.isKey with ⟨h1, h2⟩ | ⟨j, e, h1, h2, h3⟩
 · refine ⟨.map (es.push { key := .int .i64 i, val := v, born := clock }) (clock + 1), ?_, _, _, (heap_set hb).1, ?_, ?_, stamped_push hs h2⟩
   · simp [Instr.mapUpdate, run_underlying ht, MapKept.run_getObj_map hb, MapKept.run_checkKey hk (show IsKey (.int .i64) (.int .i64 i) by simp [IsKey]), MapKept.run_findKey hk h1, MapKept.run_setObj_map _ hb, Result.andThen]
   · rw [Array.toList_push]; exact F.push i v clock h2
   · intro c
     rw [Array.toList_push, findAt_append, hf c, findAt_cons _ _ i c rfl]
     by_cases g : c = i
     · subst g
       rw [← hf c, findAt_none F c h2]
       simp
     · show _ = if c = i then some v else f c
       rw [if_neg g, if_neg (Ne.symm g)]
       cases f c <;> rfl
 · have hj : es[j]? = some e := by simpa using h2
   have eset : (es.modify j fun e => { e with key := .int .i64 i, val := v }).toList = es.toList.set j { e with key := .int .i64 i, val := v } := by
     apply List.ext_getElem?
     intro n
     rw [List.getElem?_set, Array.getElem?_toList, Array.getElem?_modify]
     by_cases g : j = n
     · subst g
       have hlt : j < es.toList.length := (List.getElem?_eq_some_iff.1 h2).1
       rw [if_pos rfl, if_pos rfl, hj]
       simp only [Option.map_some]
       rw [if_pos hlt]
     · rw [if_neg g, if_neg g, Array.getElem?_toList]
   refine ⟨.map (es.modify j fun e => { e with key := .int .i64 i, val := v }) clock, ?_, _, _, (heap_set hb).1, ?_, ?_, stamped_modify hs j _ (fun _ _ => rfl) fun e' _ hej => ?_⟩
   · simp [Instr.mapUpdate, run_underlying ht, MapKept.run_getObj_map hb, MapKept.run_checkKey hk (show IsKey (.int .i64) (.int .i64 i) by simp [IsKey]), MapKept.run_findKey hk h1, hj, h3, run_keyThatStays (show IsKey (.int .i64) (.int .i64 i) by simp [IsKey]), MapKept.run_setObj_map _ hb, Result.andThen]
   · rw [eset]; exact F.set i v h2 h3
   · intro c
     rw [eset, findAt_set F i v h2 h3, hf c]
   · rw [hj] at hej
     cases hej
     exact h3.symm
theorem drop (h : BMap w b f) (i : Int) (ty : TypeId) :
   ∃ o, (Builtin.delete_ #[t, kt] ty #[.map (some b), .int .i64 i]).run P w = .ok (.tuple #[]) { w with heap := w.heap.setIfInBounds b o } ∧ BMap { w with heap := w.heap.setIfInBounds b o } b fun c => if c = i then none else f c := by
 obtain ⟨es, clock, hb, F, hf, hs⟩ := h
 rcases findNow_spec (d := .int .i64) (k := .int .i64 i) (by simp [IsKey]) es.toList 0 F.isKey with ⟨h1, h2⟩ | ⟨j, e, h1, h2, h3⟩
 · refine ⟨.map es clock, ?_, _, _, (heap_set hb).1, F, ?_, hs⟩
   · simp [Builtin.delete_, run_underlying ht, MapKept.run_getObj_map hb, MapKept.run_checkKey hk (show IsKey (.int .i64) (.int .i64 i) by simp [IsKey]), MapKept.run_findKey hk h1, MapKept.run_setObj_map _ hb, Result.andThen]
   · intro c
     rw [hf c]
     show _ = if c = i then none else f c
     by_cases g : c = i
     · subst g; rw [← hf c, findAt_none F c h2]; simp
     · rw [if_neg g]
 · have hlt : j < es.size := by simpa using (List.getElem?_eq_some_iff.1 h2).1
   have eer : (es.eraseIdxIfInBounds j).toList = es.toList.eraseIdx j := by
     unfold Array.eraseIdxIfInBounds
     rw [dif_pos hlt, Array.toList_eraseIdx]
   refine ⟨.map (es.eraseIdxIfInBounds j) clock, ?_, _, _, (heap_set hb).1, ?_, ?_, stamped_erase hs j⟩
   · simp [Builtin.delete_, run_underlying ht, MapKept.run_getObj_map hb, MapKept.run_checkKey hk (show IsKey (.int .i64) (.int .i64 i) by simp [IsKey]), MapKept.run_findKey hk h1, MapKept.run_setObj_map _ hb, Result.andThen]
   · rw [eer]; exact F.erase j
   · intro c; rw [eer, findAt_erase F i h2 h3, hf c]
end BMap
theorem findAt_iff {l : List MapEntry} (h : Entries l) (i : Int) : (findAt l i).isSome = true ↔ ∃ e ∈ l, e.key = .int .i64 i := by
 constructor
 · intro hs
   refine Classical.byContradiction fun hn => ?_
   rw [findAt_none h i fun e he hk => hn ⟨e, he, hk⟩] at hs
   cases hs
 · rintro ⟨e, he, hk⟩
   obtain ⟨j, hj, e1⟩ := List.getElem_of_mem he
   rw [findAt_some h i (j := j) (e := e) (by rw [List.getElem?_eq_getElem hj, e1]) hk]
   rfl
theorem few_below : ∀ (n : Nat) (l : List Int), l.Nodup → (∀ x ∈ l, 0 ≤ x ∧ x < n) → l.length ≤ n
 | 0, [], _, _ => Nat.le_refl _
 | 0, x :: l, _, h => by have := h x (by simp); omega
 | n + 1, l, hn, h => by
   by_cases hx : (n : Int) ∈ l
   · have h1 := few_below n (l.erase (n : Int)) (hn.erase _) fun x hx' => by
       have h2 := (List.Nodup.mem_erase_iff hn).1 hx'
       have h3 := h x h2.2
       have h4 := h2.1
       omega
     rw [List.length_erase_of_mem hx] at h1
     omega
   · have h1 := few_below n l hn fun x hx' => by
       have h3 := h x hx'
       have h4 : x ≠ n := fun e => hx (e ▸ hx')
       omega
     omega
end Go.Proofs.YtbplgbkbggmaeaaGreat

namespace Go.Proofs.YtbplgbkbggmaeaaGreat
open Go.RowKit
def frCells : Option Fr8 → List Value
 | none => [.bool false, .int .i64 0, .int .i64 0, .string ⟨#[]⟩, .bool false, .int .i64 0]
 | some f => [.bool true, .int .i64 f.no, .int .i64 f.pg.1, .string f.pg.2, .bool f.dirty, .int .i64 f.since]
theorem frCells_len (x : Option Fr8) : (frCells x).length = 6 := by cases x <;> rfl
def frsV (l : Frs) : List Value := l.flatMap frCells
theorem frsV_at (l : Frs) (k : Nat) (x : Option Fr8) (h : l[k]? = some x) (i : Nat) (hi : i < 6) : (frsV l)[k * 6 + i]? = (frCells x)[i]? := by
 induction l generalizing k with
 | nil => simp at h
 | cons y l ih =>
   have e : frsV (y :: l) = frCells y ++ frsV l := rfl
   rw [e]
   cases k with
   | zero =>
     simp only [List.getElem?_cons_zero, Option.some.injEq] at h
     subst h
     rw [List.getElem?_append_left (by rw [frCells_len]; omega), Nat.zero_mul, Nat.zero_add]
   | succ k =>
     rw [List.getElem?_append_right (by rw [frCells_len]; omega), frCells_len, show (k + 1) * 6 + i - 6 = k * 6 + i by omega]
     exact ih k (by simpa using h)
def set6 (l : List Value) (j : Nat) (c : List Value) : List Value := (((((l.set j (c.getD 0 undef)).set (j + 1) (c.getD 1 undef)).set (j + 2) (c.getD 2 undef)).set (j + 3) (c.getD 3 undef)).set (j + 4) (c.getD 4 undef)).set (j + 5) (c.getD 5 undef)
theorem frsV_set6 : ∀ (l : Frs) (k : Nat) (_ : k < l.length) (x : Option Fr8), set6 (frsV l) (k * 6) (frCells x) = frsV (l.set k x)
 | [], k, h, _ => by simp at h
 | y :: l, 0, _, x => by
   have e : frsV (y :: l) = frCells y ++ frsV l := rfl
   have e2 : frsV ((y :: l).set 0 x) = frCells x ++ frsV l := rfl
   rw [e, e2]
   cases y <;> cases x <;> rfl
 | y :: l, k + 1, h, x => by
   have e : frsV (y :: l) = frCells y ++ frsV l := rfl
   have e2 : frsV ((y :: l).set (k + 1) x) = frCells y ++ frsV (l.set k x) := rfl
   rw [e, e2, ← frsV_set6 l k (by simpa using h) x]
   have hs : ∀ (a b : List Value) (j : Nat) (v : Value), a.length = 6 → (a ++ b).set (6 + j) v = a ++ b.set j v := fun a b j v ha => by
     rw [List.set_append_right _ _ (by omega), ha, Nat.add_sub_cancel_left]
   unfold set6
   rw [show (k + 1) * 6 = 6 + k * 6 by omega]
   simp only [Nat.add_assoc]
   rw [hs _ _ _ _ (frCells_len y), hs _ _ _ _ (frCells_len y), hs _ _ _ _ (frCells_len y), hs _ _ _ _ (frCells_len y), hs _ _ _ _ (frCells_len y), hs _ _ _ _ (frCells_len y)]
def frsA (l : Frs) : Array Value := (frsV l).toArray
def hm (l : Frs) (i : Int) : Option Value := (holds l i).map fun k => .int .i64 k
structure A8 where
 q : Nat
 gf : Nat
 m : Nat
 s : Nat
 g : Nat
 gd : Nat
 base : Nat
 n : Nat
def OfP (A : A8) : Foot := fun b => b = A.q ∨ b = A.gf ∨ b = A.m
def poolCells (A : A8) (c hand : Nat) : Array Value := #[.pointer (some ⟨A.s, 0, none⟩), .pointer (some ⟨A.g, 0, none⟩), .slice (some ⟨A.gf, 0, none⟩) c c, .map (some A.m), .int .i64 hand]
structure IsP (w : World) (A : A8) (l : Frs) (hand : Nat) : Prop where
 head : Blk w A.q 100 (poolCells A l.length hand)
 rows : Blk w A.gf 104 (frsA l)
 map : BMap w A.m (hm l)
namespace IsP
variable {w w' : World} {A : A8} {l : Frs} {hand : Nat}
theorem keep (h : IsP w A l hand) (hk : ∀ b, OfP A b → w'.heap[b]? = w.heap[b]?) : IsP w' A l hand :=
 ⟨(hk _ (.inl rfl)).trans h.head, (hk _ (.inr (.inl rfl))).trans h.rows, h.map.keep (hk _ (.inr (.inr rfl)))⟩
theorem lt (h : IsP w A l hand) : ∀ b, OfP A b → b < w.heap.size := by
 rintro b (rfl | rfl | rfl)
 · exact h.head.lt
 · exact h.rows.lt
 · exact h.map.lt
theorem below (h : IsP w A l hand) (hb : Below w.heap.size w w') : IsP w' A l hand := h.keep fun b hb2 => hb.block b (h.lt b hb2)
theorem qgf (h : IsP w A l hand) : A.q ≠ A.gf := by
 intro e
 have h1 := h.head
 have h2 := h.rows
 unfold Blk at h1 h2
 rw [e, h2] at h1
 simp only [Option.some.injEq, Obj.cells.injEq] at h1
 exact absurd h1.2.1 (by decide)
theorem qm (h : IsP w A l hand) : A.q ≠ A.m := h.map.cells h.head
theorem gfm (h : IsP w A l hand) : A.gf ≠ A.m := h.map.cells h.rows
theorem cells (h : IsP w A l hand) : w.cell? ⟨A.q, 0, none⟩ = some (.pointer (some ⟨A.s, 0, none⟩)) ∧ w.cell? ⟨A.q, 1, none⟩ = some (.pointer (some ⟨A.g, 0, none⟩)) ∧ w.cell? ⟨A.q, 2, none⟩ = some (.slice (some ⟨A.gf, 0, none⟩) l.length l.length) ∧ w.cell? ⟨A.q, 3, none⟩ = some (.map (some A.m)) ∧ w.cell? ⟨A.q, 4, none⟩ = some (.int .i64 hand) :=
 ⟨h.head.cell 0, h.head.cell 1, h.head.cell 2, h.head.cell 3, h.head.cell 4⟩
theorem row (h : IsP w A l hand) {k : Nat} {x : Option Fr8} (hk : l[k]? = some x) (i : Nat) (hi : i < 6) : w.cell? ⟨A.gf, k * 6 + i, none⟩ = (frCells x)[i]? := by
 rw [h.rows.cell, ← frsV_at l k x hk i hi]
 simp [frsA]
theorem rowN (h : IsP w A l hand) {k : Nat} (hk : l[k]? = some none) : w.cell? ⟨A.gf, k * 6, none⟩ = some (.bool false) ∧ w.cell? ⟨A.gf, k * 6 + 1, none⟩ = some (.int .i64 0) ∧ w.cell? ⟨A.gf, k * 6 + 2, none⟩ = some (.int .i64 0) ∧ w.cell? ⟨A.gf, k * 6 + 3, none⟩ = some (.string ⟨#[]⟩) ∧ w.cell? ⟨A.gf, k * 6 + 4, none⟩ = some (.bool false) ∧ w.cell? ⟨A.gf, k * 6 + 5, none⟩ = some (.int .i64 0) :=
 ⟨h.row hk 0 (by omega), h.row hk 1 (by omega), h.row hk 2 (by omega), h.row hk 3 (by omega), h.row hk 4 (by omega), h.row hk 5 (by omega)⟩
theorem rowS (h : IsP w A l hand) {k : Nat} {f : Fr8} (hk : l[k]? = some (some f)) : w.cell? ⟨A.gf, k * 6, none⟩ = some (.bool true) ∧ w.cell? ⟨A.gf, k * 6 + 1, none⟩ = some (.int .i64 f.no) ∧ w.cell? ⟨A.gf, k * 6 + 2, none⟩ = some (.int .i64 f.pg.1) ∧ w.cell? ⟨A.gf, k * 6 + 3, none⟩ = some (.string f.pg.2) ∧ w.cell? ⟨A.gf, k * 6 + 4, none⟩ = some (.bool f.dirty) ∧ w.cell? ⟨A.gf, k * 6 + 5, none⟩ = some (.int .i64 f.since) :=
 ⟨h.row hk 0 (by omega), h.row hk 1 (by omega), h.row hk 2 (by omega), h.row hk 3 (by omega), h.row hk 4 (by omega), h.row hk 5 (by omega)⟩
end IsP
theorem IsMap.look1 {P : Program} {w : World} {b : Nat} {f : Int → Option Value} {t kt et : TypeId} (ht : P.underlying t = some (.map kt et)) (hk : P.underlying kt = some (.int .i64)) (h : IsMap w b f) (i : Int) {z : Value} (hz : (zeroValue et).run P w = .ok z w) :
   (Instr.lookup t (.map (some b)) (.int .i64 i) false).run P w = .ok ((f i).getD z) w := by
 obtain ⟨es, clock, hb, F, hf⟩ := h
 rcases MapKept.findNow_spec (d := .int .i64) (k := .int .i64 i) (by simp [MapKept.IsKey]) es.toList 0 F.isKey with ⟨h1, h2⟩ | ⟨j, e, h1, h2, h3⟩
 · rw [← hf i, findAt_none F i h2]
   simp [Instr.lookup, run_underlying ht, MapKept.run_getObj_map hb, MapKept.run_checkKey hk (show MapKept.IsKey (.int .i64) (.int .i64 i) by simp [MapKept.IsKey]), MapKept.run_findKey hk h1, Result.andThen, hz]
 · rw [← hf i, findAt_some F i h2 h3]
   simp [Instr.lookup, run_underlying ht, MapKept.run_getObj_map hb, MapKept.run_checkKey hk (show MapKept.IsKey (.int .i64) (.int .i64 i) by simp [MapKept.IsKey]), MapKept.run_findKey hk h1, Result.andThen]
theorem look8 {w : World} {b : Nat} {f : Int → Option Value} (h : IsMap w b f) (i : Int) : (Instr.lookup 98 (.map (some b)) (.int .i64 i) true).run Tryz.prog w = .ok (.tuple #[(f i).getD (.int .i64 0), .bool (f i).isSome]) w :=
 h.look Tryz.underlying98 Tryz.underlying3 i (by kernel_rfl)
theorem look81 {w : World} {b : Nat} {f : Int → Option Value} (h : IsMap w b f) (i : Int) : (Instr.lookup 98 (.map (some b)) (.int .i64 i) false).run Tryz.prog w = .ok ((f i).getD (.int .i64 0)) w :=
 IsMap.look1 Tryz.underlying98 Tryz.underlying3 h i (by kernel_rfl)
structure Is8 (w : World) (FD FL : Foot) (A : A8) (Y : Y8) : Prop where
 sto : IsSto w FD A.s A.gd Y.D A.base A.n Y.t
 log : IsLog w FL A.g A.gd Y.lg
 pool : IsP w A Y.l Y.hand
 dl : ∀ b, FD b → ¬ FL b
 ls : ¬ FL A.s
 pd : ∀ b, OfP A b → ¬ FD b ∧ b ≠ A.s ∧ ¬ FL b
 ok : Ok8 A.base A.n Y
def F8 (FD FL : Foot) (A : A8) : Foot := fun b => (FD b ∨ b = A.s) ∨ FL b ∨ OfP A b
def Pool8 (w : World) (F : Foot) (A : A8) (Y : Y8) : Prop := ∃ FD FL, Is8 w FD FL A Y ∧ F = F8 FD FL A
def Out8 (w : World) (F : Foot) (A : A8) (Y : Y8) (v : Value) (e : Ending) (w' : World) : Prop := e = .returned v ∧ ∃ F', Pool8 w' F' A Y ∧ Step F F' w w'
theorem Is8.more {w w' : World} {FD FL : Foot} {A : A8} {Y : Y8} (h : Is8 w FD FL A Y) (hb : Below w.heap.size w w') : Is8 w' FD FL A Y := ⟨h.sto.below hb, h.log.below hb, h.pool.below hb, h.dl, h.ls, h.pd, h.ok⟩
namespace Pool8
variable {w w' : World} {F : Foot} {A : A8} {Y : Y8}
theorem more (h : Pool8 w F A Y) (hb : Below w.heap.size w w') : Pool8 w' F A Y := by obtain ⟨FD, FL, h, rfl⟩ := h; exact ⟨FD, FL, h.more hb, rfl⟩
theorem ok (h : Pool8 w F A Y) : Ok8 A.base A.n Y := by obtain ⟨FD, FL, h, rfl⟩ := h; exact h.ok
theorem isP (h : Pool8 w F A Y) : IsP w A Y.l Y.hand := by obtain ⟨FD, FL, h, rfl⟩ := h; exact h.pool
theorem lt (h : Pool8 w F A Y) : ∀ b, F b → b < w.heap.size := by
 obtain ⟨FD, FL, h, rfl⟩ := h
 rintro b ((hb | rfl) | hb | hb)
 · exact h.sto.disk.lt b hb
 · exact h.sto.head.lt
 · exact h.log.lt b hb
 · exact h.pool.lt b hb
theorem ofP (h : Pool8 w F A Y) {b : Nat} (hb : OfP A b) : F b := by obtain ⟨FD, FL, h, rfl⟩ := h; exact .inr (.inr hb)
theorem onPool (h : Pool8 w F A Y) {l : Frs} {hand : Nat} (hp : IsP w' A l hand) (hs : Step (OfP A) (OfP A) w w') (hok : Ok8 A.base A.n { Y with l := l, hand := hand }) : Pool8 w' F A { Y with l := l, hand := hand } ∧ Step F F w w' := by
 obtain ⟨FD, FL, h, rfl⟩ := h
 have hn : ∀ b, FD b ∨ b = A.s ∨ FL b → ¬ OfP A b := fun b hb hp => by
   obtain ⟨h1, h2, h3⟩ := h.pd b hp
   rcases hb with hb | hb | hb
   · exact h1 hb
   · exact h2 hb
   · exact h3 hb
 refine ⟨⟨FD, FL, ⟨⟨h.sto.disk.keep (fun b hb => hs.block b (h.sto.disk.lt b hb) (hn b (.inl hb))) hs.size, (hs.block _ h.sto.head.lt (hn _ (.inr (.inl rfl)))).trans h.sto.head, h.sto.apart, h.sto.b5, h.sto.n8⟩, ⟨h.log.1, h.log.2.elim fun vb r => ⟨vb, r.keep (fun b hb => hs.block b (r.lt b hb) (hn b (.inr (.inr hb)))) hs.size⟩⟩, hp, h.dl, h.ls, h.pd, hok⟩, rfl⟩, ⟨hs.os, hs.tape, hs.output, hs.size, fun b hb hF => hs.block b hb fun e => hF (.inr (.inr e)), fun b hb => .inl hb⟩⟩
end Pool8
theorem Is8.onSto {w w' : World} {FD FD' FL : Foot} {A : A8} {Y : Y8} {D : Dk} {t : Nat} {P : Nat → Pag} (h : Is8 w FD FL A Y) (hd : IsSto w' FD' A.s A.gd D A.base A.n t) (hs : Step (OfS FD A.s) (OfS FD' A.s) w w') (hok : Ok8 A.base A.n { Y with D := D, t := t, P := P }) :
   Is8 w' FD' FL A { Y with D := D, t := t, P := P } ∧ Step (F8 FD FL A) (F8 FD' FL A) w w' := by
 have hfd : ∀ b, FD' b → FD b ∨ w.heap.size ≤ b := fun b hb => by
   rcases hs.foot b (.inl hb) with (h1 | h1) | h1
   · exact .inl h1
   · exact absurd (h1 ▸ hb) hd.apart
   · exact .inr h1
 refine ⟨⟨hd, ⟨h.log.1, h.log.2.elim fun vb r => ⟨vb, r.keep (fun b hb => hs.block b (r.lt b hb) (by
     rintro (e | e)
     · exact h.dl b e hb
     · exact h.ls (e ▸ hb))) hs.size⟩⟩, h.pool.keep fun b hb => hs.block b (h.pool.lt b hb) (by
     obtain ⟨h1, h2, h3⟩ := h.pd b hb
     rintro (e | e)
     · exact h1 e
     · exact h2 e), fun b hb hl => ?_, h.ls, fun b hb => ?_, hok⟩, ⟨hs.os, hs.tape, hs.output, hs.size, fun b hb hF => hs.block b hb fun e => hF (.inl e), fun b hb => ?_⟩⟩
 · rcases hfd b hb with h1 | h1
   · exact h.dl b h1 hl
   · have := h.log.lt b hl; omega
 · obtain ⟨h1, h2, h3⟩ := h.pd b hb
   refine ⟨fun hb' => ?_, h2, h3⟩
   rcases hfd b hb' with h4 | h4
   · exact h1 h4
   · have := h.pool.lt b hb; omega
 · rcases hb with hb | hb
   · exact (hs.foot b hb).imp .inl id
   · exact .inl (.inr hb)
theorem Is8.onLog {w w' : World} {FD FD' FL FL' : Foot} {A : A8} {Y : Y8} {D : Dk} {lg : Wl} (h : Is8 w FD FL A Y) (hd : Sys w' FD' FL' A.g A.gd D lg) (hs : Step (Both FD FL) (Both FD' FL') w w') (hok : Ok8 A.base A.n { Y with D := D, lg := lg }) :
   Is8 w' FD' FL' A { Y with D := D, lg := lg } ∧ Step (F8 FD FL A) (F8 FD' FL' A) w w' := by
 have hns : ¬ Both FD FL A.s := by
   rintro (e | e)
   · exact h.sto.apart e
   · exact h.ls e
 have hnew : ∀ b, Both FD' FL' b → b < w.heap.size → Both FD FL b := fun b hb hlt => (hs.foot b hb).elim id fun e => by omega
 have hnp : ∀ b, OfP A b → ¬ Both FD FL b := fun b hb => by
   obtain ⟨h1, h2, h3⟩ := h.pd b hb
   rintro (e | e)
   · exact h1 e
   · exact h3 e
 refine ⟨⟨⟨hd.disk, (hs.block _ h.sto.head.lt hns).trans h.sto.head, fun e => hns (hnew _ (.inl e) h.sto.head.lt), h.sto.b5, h.sto.n8⟩, hd.log, h.pool.keep fun b hb => hs.block b (h.pool.lt b hb) (hnp b hb), hd.apart, fun e => hns (hnew _ (.inr e) h.sto.head.lt), fun b hb => ⟨fun e => hnp b hb (hnew b (.inl e) (h.pool.lt b hb)), (h.pd b hb).2.1, fun e => hnp b hb (hnew b (.inr e) (h.pool.lt b hb))⟩, hok⟩,
   ⟨hs.os, hs.tape, hs.output, hs.size, fun b hb hF => hs.block b hb fun e => hF (e.elim (fun e => .inl (.inl e)) fun e => .inr (.inl e)), fun b hb => ?_⟩⟩
 rcases hb with (hb | hb) | hb | hb
 · exact (hs.foot b (.inl hb)).imp (fun e => e.elim (fun e => .inl (.inl e)) fun e => .inr (.inl e)) id
 · exact .inl (.inl (.inr hb))
 · exact (hs.foot b (.inr hb)).imp (fun e => e.elim (fun e => .inl (.inl e)) fun e => .inr (.inl e)) id
 · exact .inl (.inr (.inr hb))
theorem Is8.sys {w : World} {FD FL : Foot} {A : A8} {Y : Y8} (h : Is8 w FD FL A Y) : Sys w FD FL A.g A.gd Y.D Y.lg := ⟨h.sto.disk, h.log, h.dl⟩
end Go.Proofs.YtbplgbkbggmaeaaGreat

namespace Go.Proofs.YtbplgbkbggmaeaaGreat
open Go.RowKit
section
variable {w : World} {F : Foot} {A : A8} {Y : Y8}
set_option maxRecDepth 100000 in
set_option maxHeartbeats 4000000 in
theorem poFrames_any (h : Pool8 w F A Y) : Calls Tryz.prog 28 #[.pointer (some ⟨A.q, 0, none⟩)] w fun e w' => e = .returned (.int .i64 Y.l.length) ∧ w = w' := by
 obtain ⟨c0, c1, c2, c3, c4⟩ := h.isP.cells
 clear h
 generalize Y.l.length = c at *
 go_enter Tryz.func28, Tryz.ntmps28
 go_wp2
 go_ret
 exact ⟨rfl, rfl⟩
def holdsI (l : Frs) (i : Int) : Int := match holds l i with
 | some k => (k : Int)
 | none => -1
theorem look_none {m : Nat} {l : Frs} {i : Int} (hM : BMap w m (hm l)) (hh : holds l i = none) : (Instr.lookup 98 (.map (some m)) (.int .i64 i) true).run Tryz.prog w = .ok (.tuple #[.int .i64 0, .bool false]) w := by
 have HL := look8 hM.isMap i
 unfold hm at HL
 rw [hh] at HL
 exact HL
theorem look_some {m : Nat} {l : Frs} {i : Int} {k : Nat} (hM : BMap w m (hm l)) (hh : holds l i = some k) : (Instr.lookup 98 (.map (some m)) (.int .i64 i) true).run Tryz.prog w = .ok (.tuple #[.int .i64 k, .bool true]) w := by
 have HL := look8 hM.isMap i
 unfold hm at HL
 rw [hh] at HL
 exact HL
theorem look_some1 {m : Nat} {l : Frs} {i : Int} {k : Nat} (hM : BMap w m (hm l)) (hh : holds l i = some k) : (Instr.lookup 98 (.map (some m)) (.int .i64 i) false).run Tryz.prog w = .ok (.int .i64 k) w := by
 have HL := look81 hM.isMap i
 unfold hm at HL
 rw [hh] at HL
 exact HL
set_option maxRecDepth 100000 in
set_option maxHeartbeats 4000000 in
theorem poHolds_any (h : Pool8 w F A Y) (i : Int) : Calls Tryz.prog 31 #[.pointer (some ⟨A.q, 0, none⟩), .int .i64 i] w fun e w' => e = .returned (.int .i64 (holdsI Y.l i)) ∧ w = w' := by
 obtain ⟨c0, c1, c2, c3, c4⟩ := h.isP.cells
 have hM := h.isP.map
 unfold holdsI
 clear h
 generalize A.m = m at *
 cases hh : holds Y.l i with
 | none =>
   have HL := look_none hM hh
   clear hh hM
   go_enter Tryz.func31, Tryz.ntmps31
   go_wp2
   go_ret
   exact ⟨rfl, rfl⟩
 | some k =>
   have HL := look_some hM hh
   clear hh hM
   go_enter Tryz.func31, Tryz.ntmps31
   go_wp2
   go_ret
   exact ⟨rfl, rfl⟩
end
set_option maxRecDepth 100000 in
set_option maxHeartbeats 4000000 in
theorem poOwn_any (a : Int) (d : ByteArray) (hd : d.size ≤ 500) (w : World) : Calls Tryz.prog 44 #[.agg #[.int .i64 a, .string d]] w fun e w' => e = .returned (.agg #[.int .i64 a, .string d]) ∧ Below w.heap.size w w' := by
 have K := Lib.hid (fun W => cloneS_any d W (by omega))
 clear hd
 have X0 := (Blk.new w 45 #[.int .i64 a, .string d]).alloc (.cells #[.int .i64 0, .string ⟨#[]⟩] 45)
 have R0 := Blk.new (w.alloc (.cells #[.int .i64 a, .string d] 45)) 45 #[.int .i64 0, .string ⟨#[]⟩]
 have hB := ((Below.refl w.heap.size w).alloc (Nat.le_refl _) (.cells #[.int .i64 a, .string d] 45)).alloc (by simp) (.cells #[.int .i64 0, .string ⟨#[]⟩] 45)
 simp only [World.size_alloc] at R0
 go_enter Tryz.func44, Tryz.ntmps44
 go_upto_region 1 with fail
 change Code.wp _ _ _ _ ((w.alloc (.cells #[.int .i64 a, .string d] 45)).alloc (.cells #[.int .i64 0, .string ⟨#[]⟩] 45))
 generalize (w.alloc (.cells #[.int .i64 a, .string d] 45)).alloc (.cells #[.int .i64 0, .string ⟨#[]⟩] 45) = w1 at *
 have C : Hid (∀ W, Below w1.heap.size w1 W → Blk W w.heap.size 45 #[.int .i64 a, .string d]) := fun W hW => X0.keep hW X0.lt
 clear X0
 refine' wp_region_conf 6 (.is _ :: .is _ :: .is _ :: .is _ :: .is _ :: .is _ :: []) (by kernel_rfl) (by kernel_rfl) (by kernel_rfl) (by kernel_rfl) rfl ?main
 case main =>
   iterate 6
     refine obs_is (fun w4 hE4 _ => ?_) ?_
     · have hb4 := (Below.refl w1.heap.size w1).drew.trans hE4
       have x4 := C.out w4 hb4
       have c0 := x4.cell 0
       have c1 := x4.cell 1
       simp at c0 c1
       go_wp2_with (go_at_call 72; refine (K.out _).mono ?_; rintro e w5 ⟨rfl, hb5⟩)
       first | exact post_is hb5 | exact post_is (Below.refl _ _)
     simp only [Act.put, sA, sB, sC]
   refine obs_end fun w3 hE3 _ => ?_
   have B3 := (Below.refl w1.heap.size w1).drew.trans hE3
   have R3 := R0.keep B3 R0.lt
   have hB3 := hB.trans (B3.mono hB.size)
   clear hE3 R0 C B3 hB
   change wpList _ _ _ _ _ _
   go_wp2_with (refine wpList_store_row rfl 45 _ _ rfl (w.heap.size + 1) _ rfl rfl 45 _ R3 (by kernel_rfl) (by simp) (by simp [Value.oneCell']) ?_)
   exact bodyPost_ret (results_cell_row rfl _ _ (w.heap.size + 1) 45 _ (0, 0) _ rfl (R3.setRow _) Tryz.underlying45 rfl (by kernel_rfl)) rfl ⟨rfl, below_setRow hB3 (by omega) _⟩
def World.put6 (w : World) (gf k : Nat) (c : List Value) : World := ((((((w.setCell ⟨gf, k * 6, none⟩ (c.getD 0 undef)).setCell ⟨gf, k * 6 + 1, none⟩ (c.getD 1 undef)).setCell ⟨gf, k * 6 + 2, none⟩ (c.getD 2 undef)).setCell ⟨gf, k * 6 + 3, none⟩ (c.getD 3 undef)).setCell ⟨gf, k * 6 + 4, none⟩ (c.getD 4 undef)).setCell ⟨gf, k * 6 + 5, none⟩ (c.getD 5 undef))
theorem put6_same {w : World} {gf k : Nat} {l : Frs} (h : Blk w gf 104 (frsA l)) (hk : k < l.length) (x : Option Fr8) : Blk (World.put6 w gf k (frCells x)) gf 104 (frsA (l.set k x)) := by
 have := (((((h.set (k * 6) ((frCells x).getD 0 undef)).set (k * 6 + 1) ((frCells x).getD 1 undef)).set (k * 6 + 2) ((frCells x).getD 2 undef)).set (k * 6 + 3) ((frCells x).getD 3 undef)).set (k * 6 + 4) ((frCells x).getD 4 undef)).set (k * 6 + 5) ((frCells x).getD 5 undef)
 have e : ((((((frsA l).setIfInBounds (k * 6) ((frCells x).getD 0 undef)).setIfInBounds (k * 6 + 1) ((frCells x).getD 1 undef)).setIfInBounds (k * 6 + 2) ((frCells x).getD 2 undef)).setIfInBounds (k * 6 + 3) ((frCells x).getD 3 undef)).setIfInBounds (k * 6 + 4) ((frCells x).getD 4 undef)).setIfInBounds (k * 6 + 5) ((frCells x).getD 5 undef) = frsA (l.set k x) := by
   unfold frsA
   rw [← frsV_set6 l k hk x]
   simp only [List.setIfInBounds_toArray]
   rfl
 rw [e] at this
 exact this
theorem put6_other (w : World) (gf k : Nat) (c : List Value) {b : Nat} (hb : b ≠ gf) : (World.put6 w gf k c).heap[b]? = w.heap[b]? := by
 unfold World.put6
 rw [heap_setCell_other _ _ _ _ hb, heap_setCell_other _ _ _ _ hb, heap_setCell_other _ _ _ _ hb, heap_setCell_other _ _ _ _ hb, heap_setCell_other _ _ _ _ hb, heap_setCell_other _ _ _ _ hb]
theorem put6_step {F : Foot} (w : World) {gf : Nat} (k : Nat) (c : List Value) (hF : F gf) : Step F F w (World.put6 w gf k c) :=
 ((((((Step.refl F w).set (p := ⟨gf, k * 6, none⟩) hF _).set (p := ⟨gf, k * 6 + 1, none⟩) hF _).set (p := ⟨gf, k * 6 + 2, none⟩) hF _).set (p := ⟨gf, k * 6 + 3, none⟩) hF _).set (p := ⟨gf, k * 6 + 4, none⟩) hF _).set (p := ⟨gf, k * 6 + 5, none⟩) hF _
theorem drop8 {w : World} {b : Nat} {f : Int → Option Value} (h : BMap w b f) (i : Int) :
   ∃ w', (Builtin.delete_ #[98, 3] 0 #[.map (some b), .int .i64 i]).run Tryz.prog w = .ok (.tuple #[]) w' ∧ BMap w' b (fun c => if c = i then none else f c) ∧ (∀ c, c ≠ b → w'.heap[c]? = w.heap[c]?) ∧ ∀ F : Foot, F b → Step F F w w' := by
 obtain ⟨o, h1, h2⟩ := h.drop Tryz.underlying98 Tryz.underlying3 i 0
 exact ⟨_, h1, h2, fun c hc => (show (w.heap.setIfInBounds b o)[c]? = _ by rw [Array.getElem?_setIfInBounds, if_neg hc.symm]), fun F hF => (Step.refl F w).setObj hF o⟩
theorem put8 {w : World} {b : Nat} {f : Int → Option Value} (h : BMap w b f) (i : Int) (v : Value) :
   ∃ w', (Instr.mapUpdate 98 (.map (some b)) (.int .i64 i) v).run Tryz.prog w = .ok () w' ∧ BMap w' b (fun c => if c = i then some v else f c) ∧ (∀ c, c ≠ b → w'.heap[c]? = w.heap[c]?) ∧ ∀ F : Foot, F b → Step F F w w' := by
 obtain ⟨o, h1, h2⟩ := h.put Tryz.underlying98 Tryz.underlying3 i v
 exact ⟨_, h1, h2, fun c hc => (show (w.heap.setIfInBounds b o)[c]? = _ by rw [Array.getElem?_setIfInBounds, if_neg hc.symm]), fun F hF => (Step.refl F w).setObj hF o⟩
theorem rowC {w : World} {gf : Nat} {l : Frs} (h : Blk w gf 104 (frsA l)) {k : Nat} {x : Option Fr8} (hk : l[k]? = some x) (i : Nat) (hi : i < 6) : w.cell? ⟨gf, k * 6 + i, none⟩ = (frCells x)[i]? := by
 rw [h.cell, ← frsV_at l k x hk i hi]
 simp [frsA]
theorem rowC6 {w : World} {gf : Nat} {l : Frs} (h : Blk w gf 104 (frsA l)) {k : Nat} {f : Fr8} (hk : l[k]? = some (some f)) : w.cell? ⟨gf, k * 6, none⟩ = some (.bool true) ∧ w.cell? ⟨gf, k * 6 + 1, none⟩ = some (.int .i64 f.no) ∧ w.cell? ⟨gf, k * 6 + 2, none⟩ = some (.int .i64 f.pg.1) ∧ w.cell? ⟨gf, k * 6 + 3, none⟩ = some (.string f.pg.2) ∧ w.cell? ⟨gf, k * 6 + 4, none⟩ = some (.bool f.dirty) ∧ w.cell? ⟨gf, k * 6 + 5, none⟩ = some (.int .i64 f.since) :=
 ⟨rowC h hk 0 (by omega), rowC h hk 1 (by omega), rowC h hk 2 (by omega), rowC h hk 3 (by omega), rowC h hk 4 (by omega), rowC h hk 5 (by omega)⟩
theorem rowC0 {w : World} {gf : Nat} {l : Frs} (h : Blk w gf 104 (frsA l)) {k : Nat} (hk : l[k]? = some none) : w.cell? ⟨gf, k * 6, none⟩ = some (.bool false) ∧ w.cell? ⟨gf, k * 6 + 1, none⟩ = some (.int .i64 0) ∧ w.cell? ⟨gf, k * 6 + 2, none⟩ = some (.int .i64 0) ∧ w.cell? ⟨gf, k * 6 + 3, none⟩ = some (.string ⟨#[]⟩) ∧ w.cell? ⟨gf, k * 6 + 4, none⟩ = some (.bool false) ∧ w.cell? ⟨gf, k * 6 + 5, none⟩ = some (.int .i64 0) :=
 ⟨rowC h hk 0 (by omega), rowC h hk 1 (by omega), rowC h hk 2 (by omega), rowC h hk 3 (by omega), rowC h hk 4 (by omega), rowC h hk 5 (by omega)⟩
section
variable {w : World} {F : Foot} {A : A8} {Y : Y8}
set_option maxRecDepth 100000 in
set_option maxHeartbeats 4000000 in
theorem poRelease_any (h : Pool8 w F A Y) {k : Nat} {f : Fr8} (hk : Y.l[k]? = some (some f)) : Calls Tryz.prog 49 #[.pointer (some ⟨A.q, 0, none⟩), .int .i64 k] w (Out8 w F A (Y.releaseY k) (.tuple #[])) := by
 obtain ⟨c0, c1, c2, c3, c4⟩ := h.isP.cells
 obtain ⟨d0, d1, d2, d3, d4, d5⟩ := h.isP.rowS hk
 have hlt := (List.getElem?_eq_some_iff.1 hk).1
 have hk1 : (k : Int) < Y.l.length := by omega
 have hr := h.isP.rows
 have hh := h.isP.head
 have H := Lib.hid h
 obtain ⟨w1, hdel, hmap, hoth, hst⟩ := drop8 h.isP.map.drew (f.no : Int)
 have r1 : Blk w1 A.gf 104 (frsA Y.l) := (hoth _ h.isP.gfm).trans hr
 have h1 : Blk w1 A.q 100 (poolCells A Y.l.length Y.hand) := (hoth _ h.isP.qm).trans hh
 have hw : Hid (IsP (World.put6 w1 A.gf k (frCells none)) A (Y.l.set k none) Y.hand ∧ Step (OfP A) (OfP A) w (World.put6 w1 A.gf k (frCells none))) :=
   ⟨⟨by rw [List.length_set]; exact (put6_other w1 _ _ _ h.isP.qgf).trans h1, put6_same r1 hlt none, (hmap.keep (put6_other w1 _ _ _ h.isP.gfm.symm)).congr fun c => by
     unfold hm
     rw [holds_drop h.ok.uniq hk c]
     split <;> rfl⟩, ((Step.refl _ w).drew.trans (hst _ (.inr (.inr rfl)))).trans (put6_step w1 k _ (.inr (.inl rfl)))⟩
 have e2 : w1.cell? ⟨A.q, 2, none⟩ = some (.slice (some ⟨A.gf, 0, none⟩) Y.l.length Y.l.length) := h1.cell 2
 obtain ⟨g0, g1, g2, g3, g4, g5⟩ := rowC6 r1 hk
 have z0 := r1.frozen (k * 6)
 have z1 := r1.frozen (k * 6 + 1)
 have z2 := r1.frozen (k * 6 + 2)
 have z3 := r1.frozen (k * 6 + 3)
 have z4 := r1.frozen (k * 6 + 4)
 have z5 := r1.frozen (k * 6 + 5)
 clear h hr hh hmap hoth hst r1 h1
 go_enter Tryz.func49, Tryz.ntmps49
 go_wp2_with fail
 go_still_tail 12, (by kernel_rfl)
 change wpList _ _ _ _ _ w.drew
 go_wp2_with fail
 go_end0
 obtain ⟨h1, h2⟩ := H.out.onPool hw.out.1 hw.out.2 (H.out.ok.release k)
 exact ⟨rfl, F, h1, h2⟩
end
end Go.Proofs.YtbplgbkbggmaeaaGreat

namespace Go.Proofs.YtbplgbkbggmaeaaGreat
open Go.RowKit
def frV (f : Fr8) : Value := .agg #[.bool true, .int .i64 f.no, .int .i64 f.pg.1, .string f.pg.2, .bool f.dirty, .int .i64 f.since]
section
variable {w : World} {F : Foot} {A : A8} {Y : Y8}
theorem Ok8.waits {base n : Nat} (h : Ok8 base n Y) : Y.D.waits.length ≤ 1000 := by
 rcases h.alive with ⟨_, hw⟩ | ⟨σ, hc⟩
 · exact hw
 · rw [hc.lies.waits]; exact Nat.zero_le _
theorem p8_safe (h : Pool8 w F A Y) {a : Int} (h0 : 0 ≤ a) (h1 : a ≤ 2147483647) (b : Bool) (hb : b = decide (Y.lg.safeAt a)) : Calls Tryz.prog 102 #[.pointer (some ⟨A.g, 0, none⟩), .int .i64 a] w fun e w' => e = .returned (.bool b) ∧ w = w' := by
 obtain ⟨FD, FL, h, rfl⟩ := h
 obtain ⟨x, rfl⟩ := Int.eq_ofNat_of_zero_le h0
 exact safe_any h.log x (by omega) b (by rw [hb]; rfl)
theorem p8_flush (h : Pool8 w F A Y) (a : Int) (hs : ¬ Y.lg.safeAt a) : Calls Tryz.prog 103 #[.pointer (some ⟨A.g, 0, none⟩)] w (Out8 w F A (Y.aheadY a).1 (.int .i64 (Y.aheadY a).2)) := by
 obtain ⟨FD, FL, h, rfl⟩ := h
 have hok := (h.ok.ahead a).1
 have e : Y.aheadY a = ({ Y with D := (Y.lg.flush Y.D).1, lg := (Y.lg.flush Y.D).2.1 }, (Y.lg.flush Y.D).2.2) := if_neg hs
 rw [e] at hok ⊢
 refine (flush_any h.sys h.ok.ep (by have := h.ok.waits; omega)).mono ?_
 rintro e w' ⟨rfl, FD', hd, st⟩
 obtain ⟨k1, k2⟩ := h.onLog hd st hok
 exact ⟨rfl, _, ⟨FD', FL, k1, rfl⟩, k2⟩
theorem p8_write (h : Pool8 w F A Y) {i : Nat} {p : Pag} (hi : i < A.n) (hp : p.Right) (ht : Y.t < 4294967296) : Calls Tryz.prog 104 #[.pointer (some ⟨A.s, 0, none⟩), .int .i64 i, .agg #[.int .i64 p.1, .string p.2]] w (Out8 w F A (Y.writeY A.base i p).1 (.int .i64 (Y.writeY A.base i p).2)) := by
 obtain ⟨FD, FL, h, rfl⟩ := h
 have hok := (h.ok.write hi hp).1
 refine (soWrite_ok h.sto hi hp ht h.ok.room (by have := h.ok.waits; omega)).mono ?_
 rintro e w' ⟨FD', rfl, hs, st⟩
 obtain ⟨k1, k2⟩ := h.onSto (P := (Y.writeY A.base i p).1.P) hs st hok
 exact ⟨rfl, _, ⟨FD', FL, k1, rfl⟩, k2⟩
set_option maxRecDepth 100000 in
set_option maxHeartbeats 8000000 in
theorem poSave_any (h : Pool8 w F A Y) {f : Fr8} (hi : f.no < A.n) (hp : f.pg.Right) (ht : Y.t < 4294967296) :
   Calls Tryz.prog 76 #[.pointer (some ⟨A.q, 0, none⟩), frV f] w (Out8 w F A (Y.saveY A.base f).1 (.int .i64 (Y.saveY A.base f).2)) := by
 have b0 := (Blk.new w 104 #[.bool true, .int .i64 f.no, .int .i64 f.pg.1, .string f.pg.2, .bool f.dirty, .int .i64 f.since])
 have hb0 := (Below.refl w.heap.size w).alloc (Nat.le_refl _) (.cells #[.bool true, .int .i64 f.no, .int .i64 f.pg.1, .string f.pg.2, .bool f.dirty, .int .i64 f.since] 104)
 have h1 := h.more hb0
 have hlt := h.lt
 have S1 : Step F F w (w.alloc (.cells #[.bool true, .int .i64 f.no, .int .i64 f.pg.1, .string f.pg.2, .bool f.dirty, .int .i64 f.since] 104)) := .ofBelow hb0
 have hx : ¬ F w.heap.size := fun e => by have := hlt _ e; omega
 have hfin : Y.saveY A.base f = if (Y.aheadY f.pg.1).2 = 0 then (Y.aheadY f.pg.1).1.writeY A.base f.no f.pg else Y.aheadY f.pg.1 := rfl
 have HFIN := Lib.hid hfin
 have HP := Lib.hid hp
 have HT := Lib.hid ht
 have HI := Lib.hid hi
 clear hfin hlt h hb0 hp ht hi
 unfold frV
 go_enter Tryz.func76, Tryz.ntmps76
 go_upto_region 1 with fail
 change Code.wp _ _ _ _ (w.alloc (.cells #[.bool true, .int .i64 f.no, .int .i64 f.pg.1, .string f.pg.2, .bool f.dirty, .int .i64 f.since] 104))
 generalize w.alloc (.cells #[.bool true, .int .i64 f.no, .int .i64 f.pg.1, .string f.pg.2, .bool f.dirty, .int .i64 f.since] 104) = w1 at *
 have H1 := Lib.hid h1
 have SS1 := Lib.hid S1
 have HX := Lib.hid hx
 have HB0 := Lib.hid b0
 clear h1 S1 hx b0
 have C : Hid (∀ W, Below w1.heap.size w1 W → Blk W w.heap.size 104 #[.bool true, .int .i64 f.no, .int .i64 f.pg.1, .string f.pg.2, .bool f.dirty, .int .i64 f.since] ∧ Pool8 W F A Y) := fun W hW => ⟨HB0.out.keep hW HB0.out.lt, H1.out.more hW⟩
 by_cases hs : Y.lg.safeAt f.pg.1
 · have e : Y.aheadY f.pg.1 = (Y, 0) := if_pos hs
   have EE := Lib.hid e
   have SA : Hid (∀ W, Below w1.heap.size w1 W → _) := fun W hW => p8_safe (H1.out.more hW) HP.out.1.1 HP.out.1.2 true (by simp [hs])
   clear hs e
   refine' wp_region_conf 9 (.is _ :: .is _ :: .is _ :: .is _ :: .is _ :: .is _ :: .is _ :: .is _ :: .is _ :: []) (by kernel_rfl) (by kernel_rfl) (by kernel_rfl) (by kernel_rfl) rfl ?main
   case main =>
     iterate 9
       refine obs_is (fun w4 hE4 _ => ?_) ?_
       · have hb4 := (Below.refl w1.heap.size w1).drew.trans hE4
         have x4 := (C.out w4 hb4).1
         obtain ⟨c0, c1, c2, c3, c4⟩ := (C.out w4 hb4).2.isP.cells
         have k2 := x4.cell 2
         simp at k2
         go_wp2_with (go_at_call 102; refine (SA.out _ hb4).mono ?_; rintro e w5 ⟨rfl, rfl⟩)
         exact post_is (Below.refl _ _)
       simp only [Act.put, sA, sB, sC]
     refine obs_end fun w3 hE3 _ => ?_
     have HB := Lib.hid ((Below.refl w1.heap.size w1).drew.trans hE3)
     clear hE3
     change wpList _ _ _ _ _ _
     have P3 := Lib.hid (C.out _ HB.out).2
     have X3 := Lib.hid (C.out _ HB.out).1
     have ST3 := Lib.hid (SS1.out.more HB.out)
     clear SA C HB SS1 HB0
     go_wp2_with fail
     have C5 : Hid (∀ W, Below w3.heap.size w3 W → Blk W w.heap.size 104 #[.bool true, .int .i64 f.no, .int .i64 f.pg.1, .string f.pg.2, .bool f.dirty, .int .i64 f.since] ∧ Pool8 W F A Y) := fun W hW => ⟨X3.out.keep hW X3.out.lt, P3.out.more hW⟩
     refine' wp_region_conf 8 (.is _ :: .is _ :: .is _ :: .is _ :: .is _ :: .is _ :: .is _ :: .is _ :: []) (by kernel_rfl) (by kernel_rfl) (by kernel_rfl) (by kernel_rfl) rfl ?main
     case main =>
       iterate 8
         refine obs_is (fun w4 hE4 _ => ?_) ?_
         · have hb4 := (Below.refl w3.heap.size w3).drew.trans hE4
           have x4 := (C5.out w4 hb4).1
           obtain ⟨c0, c1, c2, c3, c4⟩ := (C5.out w4 hb4).2.isP.cells
           have k1 := x4.cell 1
           have k2 := x4.cell 2
           have k3 := x4.cell 3
           simp at k1 k2 k3
           go_wp2_with fail
           exact post_is (Below.refl _ _)
         simp only [Act.put, sA, sB, sC]
       refine obs_end fun w6 hE6 _ => ?_
       have HB6 := Lib.hid ((Below.refl w3.heap.size w3).drew.trans hE6)
       clear hE6
       change wpList _ _ _ _ _ _
       go_wp2_with fail
       refine (p8_write (P3.out.more HB6.out) HI.out HP.out HT.out).mono ?_
       rintro e w7 ⟨rfl, F7, hp7, hs7⟩
       have P7 := Lib.hid hp7
       have S7 := Lib.hid ((ST3.out.more HB6.out).trans hs7)
       clear hp7 hs7
       go_wp2
       go_ret
       rw [HFIN.out, EE.out, if_pos rfl]
       exact ⟨rfl, F7, P7.out, S7.out⟩
 · have SA : Hid (∀ W, Below w1.heap.size w1 W → _) := fun W hW => p8_safe (H1.out.more hW) HP.out.1.1 HP.out.1.2 false (by simp [hs])
   have HS := Lib.hid hs
   clear hs
   refine' wp_region_conf 9 (.is _ :: .is _ :: .is _ :: .is _ :: .is _ :: .is _ :: .is _ :: .is _ :: .is _ :: []) (by kernel_rfl) (by kernel_rfl) (by kernel_rfl) (by kernel_rfl) rfl ?main
   case main =>
     iterate 9
       refine obs_is (fun w4 hE4 _ => ?_) ?_
       · have hb4 := (Below.refl w1.heap.size w1).drew.trans hE4
         have x4 := (C.out w4 hb4).1
         obtain ⟨c0, c1, c2, c3, c4⟩ := (C.out w4 hb4).2.isP.cells
         have k2 := x4.cell 2
         simp at k2
         go_wp2_with (go_at_call 102; refine (SA.out _ hb4).mono ?_; rintro e w5 ⟨rfl, rfl⟩)
         exact post_is (Below.refl _ _)
       simp only [Act.put, sA, sB, sC]
     refine obs_end fun w3 hE3 _ => ?_
     have HB := Lib.hid ((Below.refl w1.heap.size w1).drew.trans hE3)
     clear hE3
     change wpList _ _ _ _ _ _
     have CF := Lib.hid (p8_flush (C.out _ HB.out).2 f.pg.1 HS.out)
     have C0 := (C.out _ HB.out).2.isP.cells.1
     have C1 := (C.out _ HB.out).2.isP.cells.2.1
     have X0 := Lib.hid (C.out _ HB.out).1
     have ST0 := Lib.hid (SS1.out.more HB.out)
     have hA := (H1.out.ok.ahead f.pg.1)
     have HT5 : Hid ((Y.aheadY f.pg.1).1.t = Y.t) := hA.2.2.2.2.1
     clear SA C HB SS1 HB0 hA H1
     generalize hAY : Y.aheadY f.pg.1 = Z at *
     obtain ⟨Y1, er⟩ := Z
     simp only at CF HT5
     go_wp2_with fail
     refine CF.out.mono ?_
     rintro e w5 ⟨rfl, F5, hp5, hs5⟩
     have P3 := Lib.hid hp5
     have ST3 := Lib.hid (ST0.out.trans hs5)
     have X3 : Hid (Blk w5 w.heap.size 104 #[.bool true, .int .i64 f.no, .int .i64 f.pg.1, .string f.pg.2, .bool f.dirty, .int .i64 f.since]) := (hs5.block _ X0.out.lt HX.out).trans X0.out
     clear hp5 hs5 ST0 X0 CF C0 C1
     have HAY := Lib.hid hAY
     clear hAY
     by_cases h0 : er = 0
     · subst h0
       have HT : Hid (Y1.t < 4294967296) := by rw [HT5.out]; exact HT.out
       go_wp2_with fail
       have C5 : Hid (∀ W, Below w5.heap.size w5 W → Blk W w.heap.size 104 #[.bool true, .int .i64 f.no, .int .i64 f.pg.1, .string f.pg.2, .bool f.dirty, .int .i64 f.since] ∧ Pool8 W F5 A Y1) := fun W hW => ⟨X3.out.keep hW X3.out.lt, P3.out.more hW⟩
       refine' wp_region_conf 8 (.is _ :: .is _ :: .is _ :: .is _ :: .is _ :: .is _ :: .is _ :: .is _ :: []) (by kernel_rfl) (by kernel_rfl) (by kernel_rfl) (by kernel_rfl) rfl ?main
       case main =>
         iterate 8
           refine obs_is (fun w4 hE4 _ => ?_) ?_
           · have hb4 := (Below.refl w5.heap.size w5).drew.trans hE4
             have x4 := (C5.out w4 hb4).1
             obtain ⟨c0, c1, c2, c3, c4⟩ := (C5.out w4 hb4).2.isP.cells
             have k1 := x4.cell 1
             have k2 := x4.cell 2
             have k3 := x4.cell 3
             simp at k1 k2 k3
             go_wp2_with fail
             exact post_is (Below.refl _ _)
           simp only [Act.put, sA, sB, sC]
         refine obs_end fun w6 hE6 _ => ?_
         have HB6 := Lib.hid ((Below.refl w5.heap.size w5).drew.trans hE6)
         clear hE6
         change wpList _ _ _ _ _ _
         go_wp2_with fail
         refine (p8_write (P3.out.more HB6.out) HI.out HP.out HT.out).mono ?_
         rintro e w7 ⟨rfl, F7, hp7, hs7⟩
         have P7 := Lib.hid hp7
         have S7 := Lib.hid ((ST3.out.more HB6.out).trans hs7)
         clear hp7 hs7
         go_wp2
         go_ret
         rw [HFIN.out]; simp only [if_true]
         exact ⟨rfl, F7, P7.out, S7.out⟩
     · have hb : ((er : Int) != 0) = true := by simp [h0]
       have H0 := Lib.hid h0
       clear h0
       go_wp2
       go_ret
       rw [HFIN.out]
       simp only [if_neg H0.out]
       exact ⟨rfl, F5, P3.out, ST3.out⟩
set_option maxRecDepth 100000 in
set_option maxHeartbeats 8000000 in
theorem poEmpty_any (h : Pool8 w F A Y) {k : Nat} {f : Fr8} (hk : Y.l[k]? = some (some f)) (ht : Y.t < 4294967296) :
   Calls Tryz.prog 48 #[.pointer (some ⟨A.q, 0, none⟩), .int .i64 k] w (Out8 w F A (Y.emptyY A.base k f).1 (.int .i64 (Y.emptyY A.base k f).2)) := by
 obtain ⟨c0, c1, c2, c3, c4⟩ := h.isP.cells
 obtain ⟨d0, d1, d2, d3, d4, d5⟩ := rowC6 h.isP.rows hk
 have hlt := (List.getElem?_eq_some_iff.1 hk).1
 have hk1 : (k : Int) < Y.l.length := by omega
 have hfr := h.ok.fr k f hk
 have hfin : Y.emptyY A.base k f = if f.dirty then (if (Y.saveY A.base f).2 = 0 then ((Y.saveY A.base f).1.releaseY k, 0) else Y.saveY A.base f) else (Y.releaseY k, 0) := rfl
 have hsv := h.ok.save hk
 have HFIN := Lib.hid hfin
 have HSV : Hid ((Y.saveY A.base f).1.l = Y.l) := hsv.2.2.1
 have H := Lib.hid h
 have HT := Lib.hid ht
 have HK := Lib.hid hk
 have HF := Lib.hid hfr
 have B0 := Lib.hid (Blk.new w 104 #[.bool true, .int .i64 f.no, .int .i64 f.pg.1, .string f.pg.2, .bool f.dirty, .int .i64 f.since])
 have HB := Lib.hid ((Below.refl w.heap.size w).alloc (Nat.le_refl _) (.cells #[.bool true, .int .i64 f.no, .int .i64 f.pg.1, .string f.pg.2, .bool f.dirty, .int .i64 f.since] 104))
 clear h hk ht hfin hsv hfr hlt
 go_enter Tryz.func48, Tryz.ntmps48
 go_upto_region 2 with fail
 change Code.wp _ _ _ _ (w.alloc (.cells #[.bool true, .int .i64 f.no, .int .i64 f.pg.1, .string f.pg.2, .bool f.dirty, .int .i64 f.since] 104))
 have P1 := Lib.hid (H.out.more HB.out)
 have ST1 : Hid (Step F F w (w.alloc (.cells #[.bool true, .int .i64 f.no, .int .i64 f.pg.1, .string f.pg.2, .bool f.dirty, .int .i64 f.since] 104))) := Step.ofBelow HB.out
 clear c0 c1 c2 c3 c4 d0 d1 d2 d3 d4 d5 HB H
 generalize w.alloc (.cells #[.bool true, .int .i64 f.no, .int .i64 f.pg.1, .string f.pg.2, .bool f.dirty, .int .i64 f.since] 104) = w1 at *
 have b4 := B0.out.cell 4
 simp at b4
 by_cases hd : f.dirty = true
 · rw [if_pos hd] at HFIN
   have SV := poSave_any P1.out HF.out.1 HF.out.2 HT.out
   unfold frV at SV
   rw [hd] at SV
   replace SV := Lib.hid SV
   go_wp2_with (refine wpList_load_row rfl 104 _ rfl w.heap.size rfl 104 _ (0, 0) _ B0.out Tryz.underlying104 rfl (by kernel_rfl) ?_)
   refine SV.out.mono ?_
   clear SV
   generalize Y.saveY A.base f = Z at *
   obtain ⟨Y1, er⟩ := Z
   rintro e w2 ⟨rfl, F2, hp2, hs2⟩
   have P2 := Lib.hid hp2
   have ST2 := Lib.hid (ST1.out.trans hs2)
   clear hp2 hs2 ST1 P1 b4 B0
   by_cases h0 : er = 0
   · subst h0
     have hk2 : Y1.l[k]? = some (some f) := by have := HSV.out; simp only at this; rw [this]; exact HK.out
     have RL := Lib.hid (poRelease_any P2.out hk2)
     clear hk2
     go_wp2_with fail
     refine RL.out.mono ?_
     rintro e w3 ⟨rfl, F3, hp3, hs3⟩
     have P3 := Lib.hid hp3
     have ST3 := Lib.hid (ST2.out.trans hs3)
     clear hp3 hs3 RL
     go_wp2
     go_ret
     rw [HFIN.out]
     simp only [if_true]
     exact ⟨rfl, F3, P3.out, ST3.out⟩
   · have hb : ((er : Int) != 0) = true := by simp [h0]
     have H0 := Lib.hid h0
     clear h0
     go_wp2
     go_ret
     rw [HFIN.out, if_neg H0.out]
     exact ⟨rfl, F2, P2.out, ST2.out⟩
 · rw [if_neg hd] at HFIN
   have hd' : f.dirty = false := by simpa using hd
   rw [hd'] at b4
   clear hd
   have RL := Lib.hid (poRelease_any P1.out HK.out)
   go_wp2_with fail
   refine RL.out.mono ?_
   rintro e w3 ⟨rfl, F3, hp3, hs3⟩
   have P3 := Lib.hid hp3
   have ST3 := Lib.hid (ST1.out.trans hs3)
   clear hp3 hs3 RL
   go_wp2
   go_ret
   rw [HFIN.out]
   exact ⟨rfl, F3, P3.out, ST3.out⟩
end
end Go.Proofs.YtbplgbkbggmaeaaGreat
