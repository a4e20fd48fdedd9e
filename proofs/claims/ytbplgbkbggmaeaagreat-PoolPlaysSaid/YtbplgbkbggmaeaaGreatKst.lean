/- Texts that belong together, joined: Act, St, StW, StD, StC. -/
import Derived.Test.YtbplgbkbggmaeaaGreatKbase
import Derived.Test.YtbplgbkbggmaeaaGreatKslab
import Derived.Test.YtbplgbkbggmaeaaGreatKpg
namespace Go.Proofs.YtbplgbkbggmaeaaGreat
inductive Act7
 | w (i : Nat) (s : ByteArray)
 | sync
namespace Act7
def fits (n : Nat) : Act7 → Prop
 | .w i s => i < n ∧ s.size = 128
 | .sync => True
def on : Act7 → Dk → Dk
 | .w i s, D => D.write i s
 | .sync, D => D.sync
def err : Act7 → Dk → Nat
 | .w i s, D => D.writeE i s
 | .sync, D => D.syncE
def eff : Act7 → List ByteArray × List (Nat × ByteArray) → List ByteArray × List (Nat × ByteArray)
 | .w i s, x => (x.1, x.2 ++ [(i, s)])
 | .sync, x => (settleTo (fun _ => 1) x.2 x.1 x.2.length, [])
end Act7
def acts : List Act7 → Dk → Dk × Nat
 | [], D => (D, 0)
 | a :: l, D => if a.err D = 0 then acts l (a.on D) else (a.on D, a.err D)
def effs : List Act7 → List ByteArray × List (Nat × ByteArray) → List ByteArray × List (Nat × ByteArray)
 | [], x => x
 | a :: l, x => effs l (a.eff x)
theorem acts_cons (a : Act7) (l : List Act7) (D : Dk) : acts (a :: l) D = if a.err D = 0 then acts l (a.on D) else (a.on D, a.err D) := rfl
theorem effs_app (l m : List Act7) (x : List ByteArray × List (Nat × ByteArray)) : effs (l ++ m) x = effs m (effs l x) := by
 induction l generalizing x with
 | nil => rfl
 | cons a l ih => exact ih _
theorem acts_app (l m : List Act7) (D : Dk) : acts (l ++ m) D = if (acts l D).2 = 0 then acts m (acts l D).1 else acts l D := by
 induction l generalizing D with
 | nil => simp [acts]
 | cons a l ih =>
   rw [List.cons_append, acts_cons, acts_cons]
   by_cases h : a.err D = 0
   · rw [if_pos h, if_pos h, ih]
   · rw [if_neg h, if_neg h, if_neg h]
theorem act_yes {a : Act7} {D : Dk} (hf : a.fits D.safe.length) (hg : D.gone = false) (hz : D.fuse ≠ some 0) :
   a.err D = 0 ∧ a.on D = ⟨(a.eff (D.safe, D.waits)).1, (a.eff (D.safe, D.waits)).2, false, D.fuse.map (· - 1)⟩ := by
 have hb : D.bears = true := by unfold Dk.bears; simp [hg, hz]
 have hu : D.burn = { D with fuse := D.fuse.map (· - 1) } := by unfold Dk.burn; rw [if_pos hb]
 cases a with
 | w i s =>
   have hh : D.has (i : Int) := ⟨by omega, by have := hf.1; omega⟩
   refine ⟨?_, ?_⟩
   · show D.writeE i s = 0
     unfold Dk.writeE
     rw [if_pos hh, if_pos hf.2, if_pos hb]
   · show D.write i s = _
     unfold Dk.write
     rw [if_pos hh, if_pos hf.2, if_pos hb, hu]
     simp [Act7.eff, hg]
 | sync =>
   refine ⟨?_, ?_⟩
   · show D.syncE = 0
     unfold Dk.syncE
     rw [if_pos hb]
   · show D.sync = _
     unfold Dk.sync
     rw [if_pos hb, hu]
     simp [Act7.eff, Dk.settled, hg]
theorem act_no {a : Act7} {D : Dk} (hf : a.fits D.safe.length) (hz : D.gone = true ∨ D.fuse = some 0) :
   a.err D = 4 ∧ a.on D = { D with gone := true } := by
 have hb : ¬ D.bears = true := by unfold Dk.bears; rcases hz with h | h <;> simp [h]
 have hu : D.burn = { D with gone := true } := by unfold Dk.burn; rw [if_neg hb]
 cases a with
 | w i s =>
   have hh : D.has (i : Int) := ⟨by omega, by have := hf.1; omega⟩
   refine ⟨?_, ?_⟩
   · show D.writeE i s = 4
     unfold Dk.writeE
     rw [if_pos hh, if_pos hf.2, if_neg hb]
   · show D.write i s = _
     unfold Dk.write
     rw [if_pos hh, if_pos hf.2, if_neg hb, hu]
 | sync =>
   refine ⟨?_, ?_⟩
   · show D.syncE = 4
     unfold Dk.syncE
     rw [if_neg hb]
   · show D.sync = _
     unfold Dk.sync
     rw [if_neg hb, hu]
theorem eff_len (a : Act7) (x : List ByteArray × List (Nat × ByteArray)) : (a.eff x).1.length = x.1.length := by
 cases a with
 | w i s => rfl
 | sync => exact settleTo_len _ _ _ _
theorem effs_len (l : List Act7) (x : List ByteArray × List (Nat × ByteArray)) : (effs l x).1.length = x.1.length := by
 induction l generalizing x with
 | nil => rfl
 | cons a l ih => exact (ih _).trans (eff_len a x)
theorem acts_all : ∀ (l : List Act7) (D : Dk), (∀ a ∈ l, a.fits D.safe.length) → D.gone = false → (∀ m, D.fuse = some m → l.length ≤ m) →
   acts l D = (⟨(effs l (D.safe, D.waits)).1, (effs l (D.safe, D.waits)).2, false, D.fuse.map (· - l.length)⟩, 0)
 | [], D, _, hg, _ => by
   show (D, 0) = _
   cases D with
   | mk s ws g f =>
     simp only at hg
     subst hg
     cases f <;> rfl
 | a :: l, D, hf, hg, hm => by
   have hz : D.fuse ≠ some 0 := fun e => by have := hm 0 e; simp at this
   obtain ⟨h1, h2⟩ := act_yes (hf a (by simp)) hg hz
   rw [acts_cons]
   rw [if_pos h1, h2]
   rw [acts_all l _ (fun b hb => by
       show b.fits (a.eff (D.safe, D.waits)).1.length
       rw [eff_len]
       exact hf b (by simp [hb])) rfl (fun m e => by
       cases hD : D.fuse with
       | none => simp [hD] at e
       | some k => have := hm k hD; simp [hD] at e; simp at this; omega)]
   simp only [effs, List.length_cons, Option.map_map]
   congr 3
   funext k
   simp
   omega
theorem acts_cut : ∀ (l : List Act7) (D : Dk) (m : Nat), (∀ a ∈ l, a.fits D.safe.length) → D.gone = false → D.fuse = some m → m < l.length →
   acts l D = (⟨(effs (l.take m) (D.safe, D.waits)).1, (effs (l.take m) (D.safe, D.waits)).2, true, some 0⟩, 4)
 | [], _, m, _, _, _, hl => by simp at hl
 | a :: l, D, 0, hf, hg, hm, _ => by
   obtain ⟨h1, h2⟩ := act_no (hf a (by simp)) (.inr hm)
   rw [acts_cons]
   rw [if_neg (by omega), h1, h2, hm]
   rfl
 | a :: l, D, m + 1, hf, hg, hm, hl => by
   obtain ⟨h1, h2⟩ := act_yes (hf a (by simp)) hg (by rw [hm]; simp)
   rw [acts_cons]
   rw [if_pos h1, h2, hm]
   rw [acts_cut l _ m (fun b hb => by
       show b.fits (a.eff (D.safe, D.waits)).1.length
       rw [eff_len]
       exact hf b (by simp [hb])) rfl rfl (by simp at hl; omega)]
   rfl
theorem settle_some (f : Nat → Nat) (l : List (Nat × ByteArray)) (s : List ByteArray) (i : Nat) : ∀ k, (settleTo f l s k).getD i zero128 = s.getD i zero128 ∨ ∃ x ∈ l, x.1 = i ∧ ((settleTo f l s k).getD i zero128 = x.2 ∨ (settleTo f l s k).getD i zero128 = zero128)
 | 0 => .inl rfl
 | k + 1 => by
   have ih := settle_some f l s i k
   have put : ∀ (t : List ByteArray) (j : Nat) (v : ByteArray), (t.set j v).getD i zero128 = t.getD i zero128 ∨ (j = i ∧ (t.set j v).getD i zero128 = v) := fun t j v => by
     by_cases hj : j = i
     · subst hj
       by_cases hl : j < t.length
       · right; exact ⟨rfl, by simp [List.getD, hl]⟩
       · left; rw [List.set_eq_of_length_le (by omega)]
     · left; simp [List.getD, List.getElem?_set_ne hj]
   cases h : l[k]? with
   | none => unfold settleTo; rw [h]; exact ih
   | some x =>
     have hx : x ∈ l := List.mem_of_getElem? h
     have e : settleTo f l s (k + 1) = settleOne (f k) x (settleTo f l s k) := by
       conv => lhs; unfold settleTo
       rw [h]
     rw [e]
     unfold settleOne
     by_cases f1 : f k = 1
     · rw [if_pos f1]
       rcases put (settleTo f l s k) x.1 x.2 with h1 | ⟨h1, h2⟩
       · rw [h1]; exact ih
       · exact .inr ⟨x, hx, h1, .inl h2⟩
     · rw [if_neg f1]
       by_cases f2 : f k = 2
       · rw [if_pos f2]
         rcases put (settleTo f l s k) x.1 zero128 with h1 | ⟨h1, h2⟩
         · rw [h1]; exact ih
         · exact .inr ⟨x, hx, h1, .inr h2⟩
       · rw [if_neg f2]; exact ih
theorem sync_at (l : List (Nat × ByteArray)) (s : List ByteArray) (i : Nat) (hl : ∀ x ∈ l, x.1 < s.length) : ∀ k, k ≤ l.length → (settleTo (fun _ => 1) l s k).getD i zero128 = (lastOf (l.take k) i).getD (s.getD i zero128)
 | 0, _ => rfl
 | k + 1, hk => by
   have ih := sync_at l s i hl k (by omega)
   rw [settleTo_succ _ _ _ _ (by omega), List.take_succ_eq_append_getElem (by omega), lastOf_snoc]
   unfold settleOne
   rw [if_pos rfl]
   have hlt := hl l[k] (List.getElem_mem _)
   have hlen := settleTo_len (fun _ => 1) l s k
   by_cases hi : (l[k].1 : Int) = i
   · rw [if_pos hi]
     have hi' : l[k].1 = i := by omega
     rw [hi']
     rw [hi'] at hlt
     simp [List.getD, hlen, hlt]
   · rw [if_neg hi, ← ih]
     have hi' : l[k].1 ≠ i := by omega
     simp [List.getD, List.getElem?_set_ne hi']
end Go.Proofs.YtbplgbkbggmaeaaGreat

namespace Go.Proofs.YtbplgbkbggmaeaaGreat
open Go.RowKit
abbrev Pag := Int × ByteArray
def Pag.Right (p : Pag) : Prop := PgOk p.1 p.2
def Pag.bytes (p : Pag) : ByteArray := packS p.1.toNat p.2
def emptyPg : Pag := (0, noughts)
def half (b : ByteArray) (k : Nat) : ByteArray := b.extract (112 * k) (112 * k + 112)
def oneB (j : Nat) : ByteArray := ⟨#[UInt8.ofNat j]⟩
theorem oneB_inj {i j : Nat} (hi : i < 8) (hj : j < 8) (h : oneB i = oneB j) : i = j := by
 have := congrArg (fun b : ByteArray => b.data.toList) h
 simp [oneB] at this
 have := congrArg UInt8.toNat this
 simp at this
 omega
theorem Pag.bytes_size {p : Pag} (h : p.Right) : p.bytes.size = 224 := packS_size h.2
theorem half_size {b : ByteArray} (h : b.size = 224) {k : Nat} (hk : k < 2) : (half b k).size = 112 := by
 unfold half
 rw [ByteArray.size_extract]
 omega
theorem halves {b : ByteArray} (h : b.size = 224) : half b 0 ++ half b 1 = b := by
 have hl : b.data.toList.length = 224 := h
 apply str_ext
 unfold half
 rw [ByteArray.data_append, Array.toList_append, Lib.extract_data, Lib.extract_data]
 show List.take 112 (List.drop 0 b.data.toList) ++ List.take 112 (List.drop 112 b.data.toList) = _
 rw [List.drop_zero, List.take_of_length_le (l := List.drop 112 _) (by rw [List.length_drop]; omega), List.take_append_drop]
abbrev Sg := Nat → Option (Nat × ByteArray)
def idxOf (k : Nat) : Nat := if k < 3 then k else k - 3
def secOf (k : Nat) (x : Nat × ByteArray) : ByteArray := packed x.1 (idxOf k) x.2
def secV (σ : Sg) (k : Nat) : ByteArray := match σ k with
 | none => zero128
 | some x => secOf k x
def upd (σ : Sg) (k : Nat) (x : Nat × ByteArray) : Sg := fun q => if q = k then some x else σ q
theorem upd_same (σ : Sg) (k : Nat) (x : Nat × ByteArray) : upd σ k x k = some x := if_pos rfl
theorem upd_other (σ : Sg) {k q : Nat} (x : Nat × ByteArray) (h : q ≠ k) : upd σ k x q = σ q := if_neg h
def Body (n k : Nat) (b : ByteArray) : Prop := if k = 2 then ∃ j, j < n ∧ b = oneB j else b.size = 112
def Tidy (n t : Nat) (σ : Sg) : Prop := ∀ k, k < 3 + 2 * n → ∀ e b, σ k = some (e, b) → e < t ∧ Body n k b
theorem Tidy.le {n t t' : Nat} {σ : Sg} (h : Tidy n t σ) (ht : t ≤ t') : Tidy n t' σ := fun k hk e b he => ⟨Nat.lt_of_lt_of_le (h k hk e b he).1 ht, (h k hk e b he).2⟩
structure Rep (s : List ByteArray) (base n : Nat) (σ : Sg) : Prop where
 room : base + (3 + 2 * n) ≤ s.length
 sec : ∀ k, k < 3 + 2 * n → s.getD (base + k) zero128 = secV σ k
/-! Writes of a store's sectors, and syncs. -/
inductive SA
 | w (k : Nat) (x : Nat × ByteArray)
 | sync
namespace SA
def act (base : Nat) : SA → Act7
 | .w k x => .w (base + k) (secOf k x)
 | .sync => .sync
def eff : SA → Sg × List (Nat × Nat × ByteArray) → Sg × List (Nat × Nat × ByteArray)
 | .w k x, y => (y.1, y.2 ++ [(k, x)])
 | .sync, y => (y.2.foldl (fun σ z => upd σ z.1 z.2) y.1, [])
def fits (n : Nat) : SA → Prop
 | .w k x => k < 3 + 2 * n ∧ Body n k x.2
 | .sync => True
end SA
def seffs : List SA → Sg × List (Nat × Nat × ByteArray) → Sg × List (Nat × Nat × ByteArray)
 | [], y => y
 | a :: l, y => seffs l (a.eff y)
def pendW (base : Nat) (l : List (Nat × Nat × ByteArray)) : List (Nat × ByteArray) := l.map fun z => (base + z.1, secOf z.1 z.2)
theorem Body.size {n k : Nat} {b : ByteArray} (h : Body n k b) : b.size ≤ 112 := by
 unfold Body at h
 split at h
 · obtain ⟨j, _, rfl⟩ := h
   show 1 ≤ 112
   omega
 · omega
theorem secOf_size {n k : Nat} {x : Nat × ByteArray} (h : Body n k x.2) : (secOf k x).size = 128 := packed_size h.size
theorem pend_last (base : Nat) (σ : Sg) (l : List (Nat × Nat × ByteArray)) (k : Nat) : (lastOf (pendW base l) ((base + k : Nat) : Int)).getD (secV σ k) = secV (l.foldl (fun σ z => upd σ z.1 z.2) σ) k := by
 refine snoc_ind (p := fun l => (lastOf (pendW base l) ((base + k : Nat) : Int)).getD (secV σ k) = secV (l.foldl (fun σ z => upd σ z.1 z.2) σ) k) rfl ?_ l
 intro l z ih
 have e : pendW base (l ++ [z]) = pendW base l ++ [(base + z.1, secOf z.1 z.2)] := by simp [pendW]
 rw [e, lastOf_snoc, List.foldl_append]
 show _ = secV (upd (l.foldl (fun σ z => upd σ z.1 z.2) σ) z.1 z.2) k
 by_cases hk : z.1 = k
 · rw [if_pos (by rw [hk])]
   subst hk
   unfold secV
   rw [upd_same]
   rfl
 · rw [if_neg (by omega), ih]
   unfold secV
   rw [upd_other _ _ (fun h => hk h.symm)]
theorem rep_eff {s : List ByteArray} {base n : Nat} {σ : Sg} {l : List (Nat × Nat × ByteArray)} (h : Rep s base n σ) (hl : ∀ z ∈ l, z.1 < 3 + 2 * n) (a : SA) (ha : a.fits n) :
   ∃ s', (a.act base).eff (s, pendW base l) = (s', pendW base (a.eff (σ, l)).2) ∧ Rep s' base n (a.eff (σ, l)).1 ∧ s'.length = s.length ∧ ∀ z ∈ (a.eff (σ, l)).2, z.1 < 3 + 2 * n := by
 cases a with
 | w k x =>
   refine ⟨s, ?_, h, rfl, fun z hz => ?_⟩
   · simp [SA.act, SA.eff, Act7.eff, pendW]
   · rcases List.mem_append.1 hz with hz | hz
     · exact hl z hz
     · simp at hz; subst hz; exact ha.1
 | sync =>
   refine ⟨settleTo (fun _ => 1) (pendW base l) s (pendW base l).length, rfl, ⟨by rw [settleTo_len]; exact h.room, fun k hk => ?_⟩, settleTo_len _ _ _ _, fun z hz => by cases hz⟩
   rw [sync_at _ _ _ (fun x hx => by
     obtain ⟨z, hz, rfl⟩ := List.mem_map.1 hx
     have := hl z hz
     have := h.room
     show base + z.1 < s.length
     omega) _ (Nat.le_refl _), List.take_length, h.sec k hk]
   exact pend_last base σ l k
theorem rep_effs {base n : Nat} : ∀ (ls : List SA) {s : List ByteArray} {σ : Sg} {l : List (Nat × Nat × ByteArray)}, Rep s base n σ → (∀ z ∈ l, z.1 < 3 + 2 * n) → (∀ a ∈ ls, a.fits n) →
   ∃ s', effs (ls.map (SA.act base)) (s, pendW base l) = (s', pendW base (seffs ls (σ, l)).2) ∧ Rep s' base n (seffs ls (σ, l)).1 ∧ s'.length = s.length
 | [], s, σ, l, h, _, _ => ⟨s, rfl, h, rfl⟩
 | a :: ls, s, σ, l, h, hl, ha => by
   obtain ⟨s1, e1, r1, n1, l1⟩ := rep_eff h hl a (ha a (by simp))
   obtain ⟨s2, e2, r2, n2⟩ := rep_effs ls r1 l1 fun b hb => ha b (by simp [hb])
   refine ⟨s2, ?_, r2, n2.trans n1⟩
   show effs (ls.map (SA.act base)) ((a.act base).eff (s, pendW base l)) = _
   rw [e1]
   exact e2
theorem sa_fits {s : List ByteArray} {base n : Nat} {σ : Sg} (h : Rep s base n σ) {ls : List SA} (ha : ∀ a ∈ ls, a.fits n) : ∀ a ∈ ls.map (SA.act base), a.fits s.length := by
 intro a hm
 obtain ⟨b, hb, rfl⟩ := List.mem_map.1 hm
 have hf := ha b hb
 cases b with
 | w k x => exact ⟨by have := h.room; have := hf.1; omega, secOf_size hf.2⟩
 | sync => trivial
def Left (σ : Sg) (l : List (Nat × Nat × ByteArray)) (σ' : Sg) : Prop := ∀ k, σ' k = σ k ∨ ∃ z ∈ l, z.1 = k ∧ (σ' k = some z.2 ∨ σ' k = none)
theorem rep_left {s : List ByteArray} {base n : Nat} {σ : Sg} (h : Rep s base n σ) (l : List (Nat × Nat × ByteArray)) (f : Nat → Nat) :
   ∃ σ', Rep (settleTo f (pendW base l) s (pendW base l).length) base n σ' ∧ Left σ l σ' := by
 have key : ∀ k, ∃ v : Option (Nat × ByteArray), (k < 3 + 2 * n → (settleTo f (pendW base l) s (pendW base l).length).getD (base + k) zero128 = match v with | none => zero128 | some x => secOf k x) ∧ (v = σ k ∨ ∃ z ∈ l, z.1 = k ∧ (v = some z.2 ∨ v = none)) := fun k => by
   by_cases hk : k < 3 + 2 * n
   · rcases settle_some f (pendW base l) s (base + k) (pendW base l).length with h1 | ⟨x, hx, h1, h2⟩
     · exact ⟨σ k, fun _ => by rw [h1, h.sec k hk]; rfl, .inl rfl⟩
     · obtain ⟨z, hz, rfl⟩ := List.mem_map.1 hx
       have hzk : z.1 = k := by simp only at h1; omega
       rcases h2 with h2 | h2
       · exact ⟨some z.2, fun _ => by rw [h2, ← hzk], .inr ⟨z, hz, hzk, .inl rfl⟩⟩
       · exact ⟨none, fun _ => h2, .inr ⟨z, hz, hzk, .inr rfl⟩⟩
   · exact ⟨σ k, fun h => absurd h hk, .inl rfl⟩
 refine ⟨fun k => Classical.choose (key k), ⟨by rw [settleTo_len]; exact h.room, fun k hk => ?_⟩, fun k => (Classical.choose_spec (key k)).2⟩
 exact (Classical.choose_spec (key k)).1 hk
end Go.Proofs.YtbplgbkbggmaeaaGreat

namespace Go.Proofs.YtbplgbkbggmaeaaGreat
open Go.RowKit
def homeSA (i t : Nat) (a b : ByteArray) : List SA := [.w (3 + 2 * i) (t, a), .w (4 + 2 * i) (t, b), .sync]
def writeSA (i t : Nat) (p : Pag) : List SA := [.w 0 (t, half p.bytes 0), .w 1 (t, half p.bytes 1), .sync, .w 2 (t, oneB i), .sync, .w (3 + 2 * i) (t, half p.bytes 0), .w (4 + 2 * i) (t, half p.bytes 1), .sync]
def HomeOk (σ : Sg) (i : Nat) (p : Pag) : Prop := (σ (3 + 2 * i) = none ∧ σ (4 + 2 * i) = none ∧ p = emptyPg) ∨ (p.Right ∧ ∃ e, σ (3 + 2 * i) = some (e, half p.bytes 0) ∧ σ (4 + 2 * i) = some (e, half p.bytes 1))
def Jour (σ : Sg) (n j e : Nat) (a b : ByteArray) : Prop := σ 0 = some (e, a) ∧ σ 1 = some (e, b) ∧ σ 2 = some (e, oneB j) ∧ j < n
def JourOk (σ : Sg) (n : Nat) (P : Nat → Pag) : Prop := ∀ j e a b, Jour σ n j e a b → (P j).Right ∧ a = half (P j).bytes 0 ∧ b = half (P j).bytes 1
structure AllOk (σ : Sg) (n : Nat) (P : Nat → Pag) : Prop where
 homes : ∀ i, i < n → HomeOk σ i (P i)
 jour : JourOk σ n P
structure Good (σ : Sg) (n : Nat) (P : Nat → Pag) : Prop where
 homes : ∀ i, i < n → HomeOk σ i (P i) ∨ ∃ e a b, Jour σ n i e a b
 jour : JourOk σ n P
def putP (P : Nat → Pag) (i : Nat) (p : Pag) : Nat → Pag := fun k => if k = i then p else P k
theorem putP_same (P : Nat → Pag) (i : Nat) (p : Pag) : putP P i p i = p := if_pos rfl
theorem putP_other (P : Nat → Pag) {i k : Nat} (p : Pag) (h : k ≠ i) : putP P i p k = P k := if_neg h
theorem HomeOk.same {σ σ' : Sg} {i : Nat} {p : Pag} (h : HomeOk σ i p) (h3 : σ' (3 + 2 * i) = σ (3 + 2 * i)) (h4 : σ' (4 + 2 * i) = σ (4 + 2 * i)) : HomeOk σ' i p := by
 unfold HomeOk
 rw [h3, h4]
 exact h
theorem jour_one {σ : Sg} {n j e : Nat} {a b : ByteArray} (hn : n ≤ 8) (h : Jour σ n j e a b) {j' e' : Nat} {a' b' : ByteArray} (h' : Jour σ n j' e' a' b') : j' = j ∧ e' = e ∧ a' = a ∧ b' = b := by
 obtain ⟨h0, h1, h2, h3⟩ := h
 obtain ⟨k0, k1, k2, k3⟩ := h'
 rw [h0] at k0
 rw [h1] at k1
 rw [h2] at k2
 simp only [Option.some.injEq, Prod.mk.injEq] at k0 k1 k2
 exact ⟨(oneB_inj (by omega) (by omega) k2.2).symm, k0.1.symm, k0.2.symm, k1.2.symm⟩
section
variable {σ σ' : Sg} {n t i : Nat} {P : Nat → Pag} {p : Pag}
theorem stageA (h : AllOk σ n P) (ht : Tidy n t σ) (hA : ∀ k, σ' k = σ k ∨ ((k = 0 ∨ k = 1) ∧ (σ' k = none ∨ ∃ b, b.size = 112 ∧ σ' k = some (t, b)))) : Good σ' n P ∧ Tidy n (t + 1) σ' := by
 have far : ∀ k, 2 ≤ k → σ' k = σ k := fun k hk => (hA k).elim id fun h => by omega
 have old : ∀ k, k < 3 → ∀ e b, σ' k = some (e, b) → e < t → σ k = some (e, b) := fun k hk e b he hlt => by
   rcases hA k with h1 | ⟨_, h1 | ⟨b', _, h1⟩⟩
   · rw [← h1]; exact he
   · rw [h1] at he; cases he
   · rw [h1] at he
     simp only [Option.some.injEq, Prod.mk.injEq] at he
     omega
 refine ⟨⟨fun i hi => .inl ((h.homes i hi).same (far _ (by omega)) (far _ (by omega))), ?_⟩, fun k hk e b he => ?_⟩
 · rintro j e a b ⟨j0, j1, j2, j3⟩
   rw [far 2 (by omega)] at j2
   have hlt := (ht 2 (by omega) e _ j2).1
   exact h.jour j e a b ⟨old 0 (by omega) e a j0 hlt, old 1 (by omega) e b j1 hlt, j2, j3⟩
 · rcases hA k with h1 | ⟨hk2, h1 | ⟨b', hb, h1⟩⟩
   · rw [h1] at he
     exact (ht.le (Nat.le_succ t)) k hk e b he
   · rw [h1] at he; cases he
   · rw [h1] at he
     simp only [Option.some.injEq, Prod.mk.injEq] at he
     obtain ⟨rfl, rfl⟩ := he
     exact ⟨by omega, by unfold Body; rw [if_neg (by omega)]; exact hb⟩
theorem stageB (hn : n ≤ 8) (h : AllOk σ n P) (ht : Tidy n t σ) (hi : i < n) (hp : p.Right) (h0 : σ' 0 = some (t, half p.bytes 0)) (h1 : σ' 1 = some (t, half p.bytes 1)) (h2 : σ' 2 = σ 2 ∨ σ' 2 = none ∨ σ' 2 = some (t, oneB i)) (h3 : ∀ k, 3 ≤ k → σ' k = σ k) :
   (Good σ' n P ∨ Good σ' n (putP P i p)) ∧ Tidy n (t + 1) σ' := by
 have hz := Pag.bytes_size hp
 have htd : Tidy n (t + 1) σ' := fun k hk e b he => by
   by_cases hk0 : k = 0
   · subst hk0
     rw [h0] at he
     simp only [Option.some.injEq, Prod.mk.injEq] at he
     obtain ⟨rfl, rfl⟩ := he
     exact ⟨by omega, by unfold Body; rw [if_neg (by omega)]; exact half_size hz (by omega)⟩
   · by_cases hk1 : k = 1
     · subst hk1
       rw [h1] at he
       simp only [Option.some.injEq, Prod.mk.injEq] at he
       obtain ⟨rfl, rfl⟩ := he
       exact ⟨by omega, by unfold Body; rw [if_neg (by omega)]; exact half_size hz (by omega)⟩
     · by_cases hk2 : k = 2
       · subst hk2
         rcases h2 with h2 | h2 | h2
         · rw [h2] at he; exact (ht.le (Nat.le_succ t)) 2 hk e b he
         · rw [h2] at he; cases he
         · rw [h2] at he
           simp only [Option.some.injEq, Prod.mk.injEq] at he
           obtain ⟨rfl, rfl⟩ := he
           exact ⟨by omega, by unfold Body; rw [if_pos rfl]; exact ⟨i, hi, rfl⟩⟩
       · rw [h3 k (by omega)] at he
         exact (ht.le (Nat.le_succ t)) k hk e b he
 refine ⟨?_, htd⟩
 by_cases hj : σ' 2 = some (t, oneB i)
 · right
   have J : Jour σ' n i t (half p.bytes 0) (half p.bytes 1) := ⟨h0, h1, hj, hi⟩
   refine ⟨fun k hk => ?_, fun j e a b hJ => ?_⟩
   · by_cases hki : k = i
     · subst hki; exact .inr ⟨_, _, _, J⟩
     · rw [putP_other P p hki]
       exact .inl ((h.homes k hk).same (h3 _ (by omega)) (h3 _ (by omega)))
   · obtain ⟨rfl, rfl, rfl, rfl⟩ := jour_one hn J hJ
     rw [putP_same]
     exact ⟨hp, rfl, rfl⟩
 · left
   refine ⟨fun k hk => .inl ((h.homes k hk).same (h3 _ (by omega)) (h3 _ (by omega))), fun j e a b hJ => ?_⟩
   obtain ⟨j0, j1, j2, j3⟩ := hJ
   rw [h0] at j0
   simp only [Option.some.injEq, Prod.mk.injEq] at j0
   obtain ⟨rfl, _⟩ := j0
   rcases h2 with h2 | h2 | h2
   · rw [h2] at j2
     have := (ht 2 (by omega) _ _ j2).1
     omega
   · rw [h2] at j2; cases j2
   · exact absurd h2 hj
theorem stageC (hn : n ≤ 8) (h : AllOk σ n P) (ht : Tidy n t σ) (hi : i < n) (hp : p.Right) (h0 : σ' 0 = some (t, half p.bytes 0)) (h1 : σ' 1 = some (t, half p.bytes 1)) (h2 : σ' 2 = some (t, oneB i))
   (h3 : ∀ k, 3 ≤ k → k ≠ 3 + 2 * i → k ≠ 4 + 2 * i → σ' k = σ k) (h4 : ∀ k, 3 ≤ k → σ' k = σ k ∨ σ' k = none ∨ ∃ b, b.size = 112 ∧ σ' k = some (t, b)) :
   Good σ' n (putP P i p) ∧ Tidy n (t + 1) σ' := by
 have hz := Pag.bytes_size hp
 have J : Jour σ' n i t (half p.bytes 0) (half p.bytes 1) := ⟨h0, h1, h2, hi⟩
 refine ⟨⟨fun k hk => ?_, fun j e a b hJ => ?_⟩, fun k hk e b he => ?_⟩
 · by_cases hki : k = i
   · subst hki; exact .inr ⟨_, _, _, J⟩
   · rw [putP_other P p hki]
     exact .inl ((h.homes k hk).same (h3 _ (by omega) (by omega) (by omega)) (h3 _ (by omega) (by omega) (by omega)))
 · obtain ⟨rfl, rfl, rfl, rfl⟩ := jour_one hn J hJ
   rw [putP_same]
   exact ⟨hp, rfl, rfl⟩
 · by_cases hk0 : k = 0
   · subst hk0
     rw [h0] at he
     simp only [Option.some.injEq, Prod.mk.injEq] at he
     obtain ⟨rfl, rfl⟩ := he
     exact ⟨by omega, by unfold Body; rw [if_neg (by omega)]; exact half_size hz (by omega)⟩
   · by_cases hk1 : k = 1
     · subst hk1
       rw [h1] at he
       simp only [Option.some.injEq, Prod.mk.injEq] at he
       obtain ⟨rfl, rfl⟩ := he
       exact ⟨by omega, by unfold Body; rw [if_neg (by omega)]; exact half_size hz (by omega)⟩
     · by_cases hk2 : k = 2
       · subst hk2
         rw [h2] at he
         simp only [Option.some.injEq, Prod.mk.injEq] at he
         obtain ⟨rfl, rfl⟩ := he
         exact ⟨by omega, by unfold Body; rw [if_pos rfl]; exact ⟨i, hi, rfl⟩⟩
       · rcases h4 k (by omega) with h5 | h5 | ⟨b', hb, h5⟩
         · rw [h5] at he; exact (ht.le (Nat.le_succ t)) k hk e b he
         · rw [h5] at he; cases he
         · rw [h5] at he
           simp only [Option.some.injEq, Prod.mk.injEq] at he
           obtain ⟨rfl, rfl⟩ := he
           exact ⟨by omega, by unfold Body; rw [if_neg (by omega)]; exact hb⟩
theorem writeSA_fits (hi : i < n) (hp : p.Right) : ∀ a ∈ writeSA i t p, a.fits n := by
 have hz := Pag.bytes_size hp
 have b0 := half_size hz (k := 0) (by omega)
 have b1 := half_size hz (k := 1) (by omega)
 intro a ha
 simp only [writeSA, List.mem_cons, List.not_mem_nil, or_false] at ha
 rcases ha with rfl | rfl | rfl | rfl | rfl | rfl | rfl | rfl
 · exact ⟨by omega, by unfold Body; rw [if_neg (by omega)]; exact b0⟩
 · exact ⟨by omega, by unfold Body; rw [if_neg (by omega)]; exact b1⟩
 · trivial
 · exact ⟨by omega, by unfold Body; rw [if_pos rfl]; exact ⟨i, hi, rfl⟩⟩
 · trivial
 · exact ⟨by omega, by unfold Body; rw [if_neg (by omega)]; exact b0⟩
 · exact ⟨by omega, by unfold Body; rw [if_neg (by omega)]; exact b1⟩
 · trivial
theorem write_left (hn : n ≤ 8) (h : AllOk σ n P) (ht : Tidy n t σ) (hi : i < n) (hp : p.Right) (m : Nat) (hm : m < 8) (hl : Left (seffs ((writeSA i t p).take m) (σ, [])).1 (seffs ((writeSA i t p).take m) (σ, [])).2 σ') :
   (Good σ' n P ∨ Good σ' n (putP P i p)) ∧ Tidy n (t + 1) σ' := by
 have hz := Pag.bytes_size hp
 have b0 := half_size hz (k := 0) (by omega)
 have b1 := half_size hz (k := 1) (by omega)
 have A : (∀ k, σ' k = σ k ∨ ((k = 0 ∨ k = 1) ∧ (σ' k = none ∨ ∃ b, b.size = 112 ∧ σ' k = some (t, b)))) → (Good σ' n P ∨ Good σ' n (putP P i p)) ∧ Tidy n (t + 1) σ' := fun hA => ⟨.inl (stageA h ht hA).1, (stageA h ht hA).2⟩
 match m, hm with
 | 0, _ =>
   refine A fun k => .inl ?_
   rcases hl k with h1 | ⟨z, hz, _⟩
   · exact h1
   · cases hz
 | 1, _ =>
   refine A fun k => ?_
   rcases hl k with h1 | ⟨z, hz, hk, h1⟩
   · exact .inl h1
   · simp only [writeSA, List.take, seffs, SA.eff, List.nil_append, List.mem_singleton] at hz
     subst hz
     exact .inr ⟨.inl hk.symm, h1.symm.imp id fun h2 => ⟨_, b0, h2⟩⟩
 | 2, _ =>
   refine A fun k => ?_
   rcases hl k with h1 | ⟨z, hz, hk, h1⟩
   · exact .inl h1
   · simp only [writeSA, List.take, seffs, SA.eff, List.nil_append, List.cons_append, List.mem_cons, List.not_mem_nil, or_false] at hz
     rcases hz with rfl | rfl
     · exact .inr ⟨.inl hk.symm, h1.symm.imp id fun h2 => ⟨_, b0, h2⟩⟩
     · exact .inr ⟨.inr hk.symm, h1.symm.imp id fun h2 => ⟨_, b1, h2⟩⟩
 | 3, _ =>
   have e : ∀ k, σ' k = upd (upd σ 0 (t, half p.bytes 0)) 1 (t, half p.bytes 1) k := fun k => (hl k).elim id fun ⟨z, hz, _⟩ => by cases hz
   refine stageB hn h ht hi hp ?_ ?_ (.inl ?_) fun k hk => ?_
   · rw [e, upd_other _ _ (by omega), upd_same]
   · rw [e, upd_same]
   · rw [e, upd_other _ _ (by omega), upd_other _ _ (by omega)]
   · rw [e, upd_other _ _ (by omega), upd_other _ _ (by omega)]
 | 4, _ =>
   have e : ∀ k, σ' k = upd (upd σ 0 (t, half p.bytes 0)) 1 (t, half p.bytes 1) k ∨ (k = 2 ∧ (σ' k = some (t, oneB i) ∨ σ' k = none)) := fun k => (hl k).imp id fun ⟨z, hz, hk, h1⟩ => by
     simp only [writeSA, List.take, seffs, SA.eff, List.nil_append, List.mem_singleton] at hz
     subst hz
     exact ⟨hk.symm, h1⟩
   refine stageB hn h ht hi hp ?_ ?_ ?_ fun k hk => ?_
   · rcases e 0 with h1 | h1
     · rw [h1, upd_other _ _ (by omega), upd_same]
     · omega
   · rcases e 1 with h1 | h1
     · rw [h1, upd_same]
     · omega
   · rcases e 2 with h1 | ⟨_, h1⟩
     · left; rw [h1, upd_other _ _ (by omega), upd_other _ _ (by omega)]
     · exact .inr h1.symm
   · rcases e k with h1 | h1
     · rw [h1, upd_other _ _ (by omega), upd_other _ _ (by omega)]
     · omega
 | 5, _ =>
   have e : ∀ k, σ' k = upd (upd (upd σ 0 (t, half p.bytes 0)) 1 (t, half p.bytes 1)) 2 (t, oneB i) k := fun k => (hl k).elim id fun ⟨z, hz, _⟩ => by cases hz
   obtain ⟨g, gt⟩ := stageC (σ' := σ') hn h ht hi hp (by rw [e, upd_other _ _ (by omega), upd_other _ _ (by omega), upd_same]) (by rw [e, upd_other _ _ (by omega), upd_same]) (by rw [e, upd_same])
     (fun k hk _ _ => by rw [e, upd_other _ _ (by omega), upd_other _ _ (by omega), upd_other _ _ (by omega)])
     (fun k hk => .inl (by rw [e, upd_other _ _ (by omega), upd_other _ _ (by omega), upd_other _ _ (by omega)]))
   exact ⟨.inr g, gt⟩
 | 6, _ =>
   have e : ∀ k, σ' k = upd (upd (upd σ 0 (t, half p.bytes 0)) 1 (t, half p.bytes 1)) 2 (t, oneB i) k ∨ (k = 3 + 2 * i ∧ (σ' k = some (t, half p.bytes 0) ∨ σ' k = none)) := fun k => (hl k).imp id fun ⟨z, hz, hk, h1⟩ => by
     simp only [writeSA, List.take, seffs, SA.eff, List.nil_append, List.mem_singleton] at hz
     subst hz
     exact ⟨hk.symm, h1⟩
   obtain ⟨g, gt⟩ := stageC (σ' := σ') hn h ht hi hp
     (by rcases e 0 with h1 | h1
         · rw [h1, upd_other _ _ (by omega), upd_other _ _ (by omega), upd_same]
         · omega)
     (by rcases e 1 with h1 | h1
         · rw [h1, upd_other _ _ (by omega), upd_same]
         · omega)
     (by rcases e 2 with h1 | h1
         · rw [h1, upd_same]
         · omega)
     (fun k hk h5 _ => by
       rcases e k with h1 | h1
       · rw [h1, upd_other _ _ (by omega), upd_other _ _ (by omega), upd_other _ _ (by omega)]
       · exact absurd h1.1 h5)
     (fun k hk => by
       rcases e k with h1 | ⟨_, h1⟩
       · exact .inl (by rw [h1, upd_other _ _ (by omega), upd_other _ _ (by omega), upd_other _ _ (by omega)])
       · exact .inr (h1.symm.imp id fun h2 => ⟨_, b0, h2⟩))
   exact ⟨.inr g, gt⟩
 | 7, _ =>
   have e : ∀ k, σ' k = upd (upd (upd σ 0 (t, half p.bytes 0)) 1 (t, half p.bytes 1)) 2 (t, oneB i) k ∨ ((k = 3 + 2 * i ∧ (σ' k = some (t, half p.bytes 0) ∨ σ' k = none)) ∨ (k = 4 + 2 * i ∧ (σ' k = some (t, half p.bytes 1) ∨ σ' k = none))) := fun k => (hl k).imp id fun ⟨z, hz, hk, h1⟩ => by
     simp only [writeSA, List.take, seffs, SA.eff, List.nil_append, List.cons_append, List.mem_cons, List.not_mem_nil, or_false] at hz
     rcases hz with rfl | rfl
     · exact .inl ⟨hk.symm, h1⟩
     · exact .inr ⟨hk.symm, h1⟩
   obtain ⟨g, gt⟩ := stageC (σ' := σ') hn h ht hi hp
     (by rcases e 0 with h1 | h1
         · rw [h1, upd_other _ _ (by omega), upd_other _ _ (by omega), upd_same]
         · omega)
     (by rcases e 1 with h1 | h1
         · rw [h1, upd_other _ _ (by omega), upd_same]
         · omega)
     (by rcases e 2 with h1 | h1
         · rw [h1, upd_same]
         · omega)
     (fun k hk h5 h6 => by
       rcases e k with h1 | h1 | h1
       · rw [h1, upd_other _ _ (by omega), upd_other _ _ (by omega), upd_other _ _ (by omega)]
       · exact absurd h1.1 h5
       · exact absurd h1.1 h6)
     (fun k hk => by
       rcases e k with h1 | ⟨_, h1⟩ | ⟨_, h1⟩
       · exact .inl (by rw [h1, upd_other _ _ (by omega), upd_other _ _ (by omega), upd_other _ _ (by omega)])
       · exact .inr (h1.symm.imp id fun h2 => ⟨_, b0, h2⟩)
       · exact .inr (h1.symm.imp id fun h2 => ⟨_, b1, h2⟩))
   exact ⟨.inr g, gt⟩
theorem write_done (hn : n ≤ 8) (h : AllOk σ n P) (ht : Tidy n t σ) (hi : i < n) (hp : p.Right) :
   (seffs (writeSA i t p) (σ, [])).2 = [] ∧ AllOk (seffs (writeSA i t p) (σ, [])).1 n (putP P i p) ∧ Tidy n (t + 1) (seffs (writeSA i t p) (σ, [])).1 ∧ (seffs (writeSA i t p) (σ, [])).1 0 = some (t, half p.bytes 0) := by
 have hz := Pag.bytes_size hp
 have b0 := half_size hz (k := 0) (by omega)
 have b1 := half_size hz (k := 1) (by omega)
 have e : (seffs (writeSA i t p) (σ, [])).1 = upd (upd (upd (upd (upd σ 0 (t, half p.bytes 0)) 1 (t, half p.bytes 1)) 2 (t, oneB i)) (3 + 2 * i) (t, half p.bytes 0)) (4 + 2 * i) (t, half p.bytes 1) := rfl
 rw [e]
 generalize hs : upd (upd (upd (upd (upd σ 0 (t, half p.bytes 0)) 1 (t, half p.bytes 1)) 2 (t, oneB i)) (3 + 2 * i) (t, half p.bytes 0)) (4 + 2 * i) (t, half p.bytes 1) = σ8
 have k0 : σ8 0 = some (t, half p.bytes 0) := by rw [← hs, upd_other _ _ (by omega), upd_other _ _ (by omega), upd_other _ _ (by omega), upd_other _ _ (by omega), upd_same]
 have k1 : σ8 1 = some (t, half p.bytes 1) := by rw [← hs, upd_other _ _ (by omega), upd_other _ _ (by omega), upd_other _ _ (by omega), upd_same]
 have k2 : σ8 2 = some (t, oneB i) := by rw [← hs, upd_other _ _ (by omega), upd_other _ _ (by omega), upd_same]
 have k3 : σ8 (3 + 2 * i) = some (t, half p.bytes 0) := by rw [← hs, upd_other _ _ (by omega), upd_same]
 have k4 : σ8 (4 + 2 * i) = some (t, half p.bytes 1) := by rw [← hs, upd_same]
 have kr : ∀ k, 3 ≤ k → k ≠ 3 + 2 * i → k ≠ 4 + 2 * i → σ8 k = σ k := fun k h1 h2 h3 => by
   rw [← hs, upd_other _ _ h3, upd_other _ _ h2, upd_other _ _ (by omega), upd_other _ _ (by omega), upd_other _ _ (by omega)]
 obtain ⟨g, gt⟩ := stageC (σ' := σ8) hn h ht hi hp k0 k1 k2 kr (fun k hk => by
   by_cases h3 : k = 3 + 2 * i
   · subst h3; exact .inr (.inr ⟨_, b0, k3⟩)
   · by_cases h4 : k = 4 + 2 * i
     · subst h4; exact .inr (.inr ⟨_, b1, k4⟩)
     · exact .inl (kr k hk h3 h4))
 refine ⟨rfl, ⟨fun k hk => ?_, g.jour⟩, gt, k0⟩
 by_cases hki : k = i
 · subst hki
   rw [putP_same]
   exact .inr ⟨hp, t, k3, k4⟩
 · rw [putP_other P p hki]
   exact (h.homes k hk).same (kr _ (by omega) (by omega) (by omega)) (kr _ (by omega) (by omega) (by omega))
end
end Go.Proofs.YtbplgbkbggmaeaaGreat

namespace Go.Proofs.YtbplgbkbggmaeaaGreat
open Go.RowKit
structure Lies (D : Dk) (base n : Nat) (σ : Sg) : Prop where
 ok : D.Ok
 rep : Rep D.safe base n σ
 waits : D.waits = []
 gone : D.gone = false
section
variable {D : Dk} {base n t i : Nat} {σ : Sg} {P : Nat → Pag} {p : Pag}
namespace Lies
theorem sec (h : Lies D base n σ) {k : Nat} (hk : k < 3 + 2 * n) : D.reachE ((base + k : Nat) : Int) = 0 ∧ D.at_ ((base + k : Nat) : Int) = secV σ k ∧ D.read ((base + k : Nat) : Int) = secV σ k := by
 have hr : D.reachE ((base + k : Nat) : Int) = 0 := by
   unfold Dk.reachE
   rw [h.gone]
   rw [if_neg (by simp), if_pos ⟨by omega, by have := h.rep.room; omega⟩]
 have ha : D.at_ ((base + k : Nat) : Int) = secV σ k := by
   unfold Dk.at_
   rw [h.waits, lastOf_nil]
   exact h.rep.sec k hk
 refine ⟨hr, ha, ?_⟩
 unfold Dk.read
 rw [if_pos hr, ha]
theorem run (h : Lies D base n σ) (ls : List SA) (hf : ∀ a ∈ ls, a.fits n) (hm : ∀ m, D.fuse = some m → ls.length ≤ m) (he : (seffs ls (σ, [])).2 = []) :
   ∃ D', acts (ls.map (SA.act base)) D = (D', 0) ∧ Lies D' base n (seffs ls (σ, [])).1 ∧ D'.fuse = D.fuse.map (· - ls.length) ∧ D'.safe.length = D.safe.length := by
 obtain ⟨s', e1, r1, n1⟩ := rep_effs ls (l := []) h.rep (fun z hz => by cases hz) hf
 have hp : pendW base [] = [] := rfl
 rw [hp] at e1
 have ha := acts_all (ls.map (SA.act base)) D (sa_fits h.rep hf) h.gone (fun m hD => by rw [List.length_map]; exact hm m hD)
 rw [h.waits, e1, he, hp, List.length_map] at ha
 refine ⟨_, ha, ⟨?_, r1, rfl, rfl⟩, rfl, n1⟩
 have hok : ∀ (l : List Act7) (D : Dk), D.Ok → (acts l D).1.Ok := fun l => by
   induction l with
   | nil => intro D hD; exact hD
   | cons a l ih =>
     intro D hD
     have hon : (a.on D).Ok := by
       cases a with
       | w i s => exact hD.write i s
       | sync => exact hD.sync
     rw [acts_cons]
     split
     · exact ih _ hon
     · exact hon
 have := hok (ls.map (SA.act base)) D h.ok
 rw [ha] at this
 exact this
theorem cut (h : Lies D base n σ) (ls : List SA) (hf : ∀ a ∈ ls, a.fits n) (m : Nat) (hm : D.fuse = some m) (hl : m < ls.length) (q : List UInt8) :
   ∃ D', acts (ls.map (SA.act base)) D = (D', 4) ∧ D'.gone = true ∧ D'.Ok ∧ ∃ σ', Left (seffs (ls.take m) (σ, [])).1 (seffs (ls.take m) (σ, [])).2 σ' ∧ Lies (D'.crash q) base n σ' ∧ (D'.crash q).fuse = none ∧ (D'.crash q).safe.length = D.safe.length ∧ D'.waits.length ≤ ls.length := by
 have hf' : ∀ a ∈ ls.take m, a.fits n := fun a ha => hf a (List.mem_of_mem_take ha)
 obtain ⟨s', e1, r1, n1⟩ := rep_effs (ls.take m) (l := []) h.rep (fun z hz => by cases hz) hf'
 have hp : pendW base [] = [] := rfl
 rw [hp] at e1
 have ha := acts_cut (ls.map (SA.act base)) D m (sa_fits h.rep hf) h.gone hm (by rw [List.length_map]; exact hl)
 rw [h.waits, ← List.map_take, e1] at ha
 have hok : ∀ (l : List Act7) (D : Dk), D.Ok → (acts l D).1.Ok := fun l => by
   induction l with
   | nil => intro D hD; exact hD
   | cons a l ih =>
     intro D hD
     have hon : (a.on D).Ok := by
       cases a with
       | w i s => exact hD.write i s
       | sync => exact hD.sync
     rw [acts_cons]
     split
     · exact ih _ hon
     · exact hon
 have hk := hok (ls.map (SA.act base)) D h.ok
 rw [ha] at hk
 obtain ⟨σ', r2, l2⟩ := rep_left r1 (seffs (ls.take m) (σ, [])).2 (fate q)
 have hw : ∀ (l : List SA) (y : Sg × List (Nat × Nat × ByteArray)), (seffs l y).2.length ≤ y.2.length + l.length := fun l => by
   induction l with
   | nil => intro y; exact Nat.le_refl _
   | cons a l ih =>
     intro y
     have := ih (a.eff y)
     cases a with
     | w k x => simp only [SA.eff, List.length_append, List.length_singleton] at this; simp only [seffs, List.length_cons, SA.eff]; omega
     | sync => simp only [SA.eff, List.length_nil] at this; simp only [seffs, List.length_cons, SA.eff]; omega
 refine ⟨_, ha, rfl, hk, σ', l2, ⟨hk.crash q, ?_, rfl, rfl⟩, rfl, ?_, ?_⟩
 · exact r2
 · show (settleTo _ _ _ _).length = _
   rw [settleTo_len]
   exact n1
 · have := hw (ls.take m) (σ, [])
   simp only [pendW, List.length_map]
   simp at this
   omega
theorem new {N : Nat} (h0 : 0 < N) (h1 : N ≤ 512) (hr : base + (3 + 2 * n) ≤ N) : Lies (Dk.new N) base n (fun _ => none) :=
 ⟨.new h0 h1, ⟨by simpa [Dk.new] using hr, fun k hk => by
   show (List.replicate N zero128).getD (base + k) zero128 = zero128
   simp [List.getD, List.getElem?_replicate]; split <;> rfl⟩, rfl, rfl⟩
end Lies
theorem new_all : AllOk (fun _ => none) n (fun _ => emptyPg) := ⟨fun i _ => .inl ⟨rfl, rfl, rfl⟩, fun j e a b J => by cases J.1⟩
theorem new_tidy : Tidy n 1 (fun _ => none) := fun k _ e b h => by cases h
structure Calm7 (D : Dk) (base n t : Nat) (P : Nat → Pag) (σ : Sg) : Prop where
 lies : Lies D base n σ
 all : AllOk σ n P
 tidy : Tidy n t σ
structure Torn7 (D : Dk) (base n t : Nat) (P : Nat → Pag) (σ : Sg) : Prop where
 lies : Lies D base n σ
 good : Good σ n P
 tidy : Tidy n t σ
theorem Calm7.new {N : Nat} (h0 : 0 < N) (h1 : N ≤ 512) (hr : base + (3 + 2 * n) ≤ N) : Calm7 (Dk.new N) base n 1 (fun _ => emptyPg) (fun _ => none) := ⟨Lies.new h0 h1 hr, new_all, new_tidy⟩
theorem Calm7.write (h : Calm7 D base n t P σ) (hn : n ≤ 8) (hi : i < n) (hp : p.Right) (hm : ∀ m, D.fuse = some m → 8 ≤ m) :
   ∃ D' σ', acts ((writeSA i t p).map (SA.act base)) D = (D', 0) ∧ Calm7 D' base n (t + 1) (putP P i p) σ' ∧ D'.fuse = D.fuse.map (· - 8) ∧ D'.safe.length = D.safe.length ∧ ∃ b, σ' 0 = some (t, b) := by
 obtain ⟨e, a, td, z⟩ := write_done hn h.all h.tidy hi hp
 obtain ⟨D', k1, k2, k3, k4⟩ := h.lies.run (writeSA i t p) (writeSA_fits hi hp) hm e
 exact ⟨D', _, k1, ⟨k2, a, td⟩, k3, k4, _, z⟩
theorem Calm7.cut (h : Calm7 D base n t P σ) (hn : n ≤ 8) (hi : i < n) (hp : p.Right) (m : Nat) (hm : D.fuse = some m) (hl : m < 8) (q : List UInt8) :
   ∃ D' σ', acts ((writeSA i t p).map (SA.act base)) D = (D', 4) ∧ D'.gone = true ∧ D'.Ok ∧ D'.waits.length ≤ 8 ∧ (D'.crash q).fuse = none ∧ (D'.crash q).safe.length = D.safe.length ∧ (Torn7 (D'.crash q) base n (t + 1) P σ' ∨ Torn7 (D'.crash q) base n (t + 1) (putP P i p) σ') := by
 obtain ⟨D', k1, k2, k3, σ', k4, k5, k6, k7, k8⟩ := h.lies.cut (writeSA i t p) (writeSA_fits hi hp) m hm hl q
 obtain ⟨g, td⟩ := write_left hn h.all h.tidy hi hp m hl k4
 exact ⟨D', σ', k1, k2, k3, k8, k6, k7, g.imp (fun g => ⟨k5, g, td⟩) fun g => ⟨k5, g, td⟩⟩
end
end Go.Proofs.YtbplgbkbggmaeaaGreat

namespace Go.Proofs.YtbplgbkbggmaeaaGreat
open Go.RowKit
theorem zero_zeros : zero128 = zeros := rfl
theorem secOf_slab {n k : Nat} {x : Nat × ByteArray} (hb : Body n k x.2) (hk : k < 19) (he : x.1 < 4294967296) : IsSlab (secOf k x) ∧ partE (secOf k x) = x.1 ∧ partI (secOf k x) = idxOf k ∧ partB (secOf k x) = x.2 := by
 have hi : idxOf k < 4294967296 := by unfold idxOf; split <;> omega
 exact ⟨isSlab_packed he hi hb.size, partE_packed he hb.size, partI_packed hi hb.size, partB_packed hb.size⟩
theorem secOf_zero {n k : Nat} {x : Nat × ByteArray} (hb : Body n k x.2) (hk : k < 19) (he : x.1 < 4294967296) : secOf k x ≠ zero128 := fun h => zeros_not (by rw [← zero_zeros, ← h]; exact (secOf_slab hb hk he).1)
section
variable {σ : Sg} {n t k : Nat}
theorem secV_none (h : σ k = none) : secV σ k = zero128 := by unfold secV; rw [h]
theorem secV_some {x : Nat × ByteArray} (h : σ k = some x) : secV σ k = secOf k x := by unfold secV; rw [h]
theorem Tidy.at_ (h : Tidy n t σ) (hk : k < 3 + 2 * n) {x : Nat × ByteArray} (hx : σ k = some x) : x.1 < t ∧ Body n k x.2 := h k hk x.1 x.2 hx
theorem unpackSec_none (h : σ k = none) (w : World) : Calls Tryz.prog 116 #[.string (secV σ k)] w fun e w' => e = .returned (.tuple #[.agg #[.int .u32 0, .int .u32 0, .string ⟨#[]⟩], .int .i64 8]) ∧ Below w.heap.size w w' := by
 rw [secV_none h, zero_zeros]
 exact unpackNo_c _ w zeros_not
theorem unpackSec_some (ht : Tidy n t σ) (hn : n ≤ 8) (hk : k < 3 + 2 * n) (hlt : t ≤ 4294967296) {e : Nat} {b : ByteArray} (h : σ k = some (e, b)) (w : World) :
   Calls Tryz.prog 116 #[.string (secV σ k)] w fun x w' => x = .returned (.tuple #[.agg #[.int .u32 (e : Nat), .int .u32 (idxOf k : Nat), .string b], .int .i64 0]) ∧ Below w.heap.size w w' := by
 have hx := ht.at_ hk h
 obtain ⟨h1, h2, h3, h4⟩ := secOf_slab hx.2 (by omega) (by have := hx.1; simp only at this ⊢; omega)
 rw [secV_some h]
 have := unpackYes_c (secOf k (e, b)) w h1
 rw [h2, h3, h4] at this
 exact this
theorem packSec {b : ByteArray} (hb : Body n k b) (hk : k < 19) {e : Nat} (he : e < 4294967296) (w : World) :
   Calls Tryz.prog 147 #[.agg #[.int .u32 (e : Nat), .int .u32 (idxOf k : Nat), .string b]] w fun x w' => x = .returned (.tuple #[.string (secOf k (e, b)), .int .i64 0]) ∧ Below w.heap.size w w' :=
 pack_c e (idxOf k) b w he (by unfold idxOf; split <;> omega) hb.size
end
section
variable {p : Pag} (h : p.Right) (w : World)
include h
theorem pgPack_right : Calls Tryz.prog 124 #[.agg #[.int .i64 p.1, .string p.2]] w fun x w' => x = .returned (.tuple #[.string p.bytes, .int .i64 0]) ∧ Below w.heap.size w w' := by
 have := pgPack_any p.1 p.2 w
 unfold packR at this
 rw [if_pos (show PgOk p.1 p.2 from h)] at this
 exact this
theorem pgUnpack_bytes : Calls Tryz.prog 64 #[.string p.bytes] w fun x w' => x = .returned (.tuple #[.agg #[.int .i64 p.1, .string p.2], .int .i64 0]) ∧ Below w.heap.size w w' := by
 have h1 := h.1.1
 have h2 := h.1.2
 have hA : p.1.toNat ≤ 2147483647 := by omega
 have := pgUnpack_yes p.bytes w (isPage_pack hA h.2)
 unfold Pag.bytes at this ⊢
 rw [pgPack_at hA, pgPack_rest, show ((p.1.toNat : Nat) : Int) = p.1 by omega] at this
 exact this
end
end Go.Proofs.YtbplgbkbggmaeaaGreat
