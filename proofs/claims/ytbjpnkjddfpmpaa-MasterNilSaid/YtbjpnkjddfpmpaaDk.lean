/- A disk as the document tells it: plain mathematics; nothing of the program is imported. -/
import Derived.Test.YtbjpnkjddfpmpaaBase
namespace Go.Proofs.Ytbjpnkjddfpmpaa

theorem snoc_ind {α : Type} {p : List α → Prop} (h0 : p []) (h1 : ∀ l x, p l → p (l ++ [x])) (l : List α) : p l := by
  have h : ∀ r : List α, p r.reverse := fun r => by
    induction r with
    | nil => exact h0
    | cons x r ih => rw [List.reverse_cons]; exact h1 _ _ ih
  have := h l.reverse
  rwa [List.reverse_reverse] at this
def zero128 : ByteArray := ⟨(List.replicate 128 0).toArray⟩
theorem zero128_size : zero128.size = 128 := by simp [zero128, ByteArray.size]
/-- Sectors that are safe; writes that wait, in order; whether the power is gone; how many writes and syncs are borne still. -/
structure Dk where
  safe : List ByteArray
  waits : List (Nat × ByteArray)
  gone : Bool
  fuse : Option Nat
/-- The last write of a sector. -/
def lastOf (l : List (Nat × ByteArray)) (i : Int) : Option ByteArray := l.foldl (fun o x => if (x.1 : Int) = i then some x.2 else o) none
theorem lastOf_snoc (l : List (Nat × ByteArray)) (x : Nat × ByteArray) (i : Int) : lastOf (l ++ [x]) i = if (x.1 : Int) = i then some x.2 else lastOf l i := by simp [lastOf]
theorem lastOf_nil (i : Int) : lastOf [] i = none := rfl
theorem lastOf_mem {l : List (Nat × ByteArray)} {i : Int} {s : ByteArray} (h : lastOf l i = some s) : ∃ x ∈ l, (x.1 : Int) = i ∧ x.2 = s := by
  revert h
  refine snoc_ind (p := fun l => lastOf l i = some s → ∃ x ∈ l, (x.1 : Int) = i ∧ x.2 = s) (fun h => by cases h) ?_ l
  · intro l x ih h
    rw [lastOf_snoc] at h
    by_cases g : (x.1 : Int) = i
    · rw [if_pos g] at h
      exact ⟨x, by simp, g, Option.some.inj h⟩
    · rw [if_neg g] at h
      obtain ⟨y, hy, k⟩ := ih h
      exact ⟨y, by simp [hy], k⟩
theorem lastOf_filter (l : List (Nat × ByteArray)) (i c : Int) : lastOf (l.filter fun x => !((x.1 : Int) == i)) c = if c = i then none else lastOf l c := by
  refine snoc_ind (p := fun l => lastOf (l.filter fun x => !((x.1 : Int) == i)) c = if c = i then none else lastOf l c) (by simp [lastOf]) ?_ l
  · intro l x ih
    rw [List.filter_append, lastOf_snoc]
    by_cases g : (x.1 : Int) = i
    · rw [List.filter_cons_of_neg (by simp [g]), List.filter_nil, List.append_nil, ih]
      by_cases k : c = i
      · rw [if_pos k, if_pos k]
      · rw [if_neg k, if_neg k, if_neg (by omega)]
    · rw [List.filter_cons_of_pos (by simp [g]), List.filter_nil, lastOf_snoc, ih]
      by_cases k : c = i
      · rw [if_neg (by omega), if_pos k, if_pos k]
      · rw [if_neg k, if_neg k]
/-- What a crash makes of the j-th write. -/
def fate (p : List UInt8) (j : Nat) : Nat := if p.length = 0 then 0 else (p.getD (j % p.length) 0).toNat % 3
theorem fate_lt (p : List UInt8) (j : Nat) : fate p j < 3 := by unfold fate; split <;> omega
def settleOne (f : Nat) (x : Nat × ByteArray) (s : List ByteArray) : List ByteArray := if f = 1 then s.set x.1 x.2 else if f = 2 then s.set x.1 zero128 else s
/-- The first k writes are settled, each by its fate. -/
def settleTo (f : Nat → Nat) (l : List (Nat × ByteArray)) (s : List ByteArray) : Nat → List ByteArray
  | 0 => s
  | k + 1 => match l[k]? with
    | some x => settleOne (f k) x (settleTo f l s k)
    | none => settleTo f l s k
theorem settleOne_len (f : Nat) (x : Nat × ByteArray) (s : List ByteArray) : (settleOne f x s).length = s.length := by unfold settleOne; split <;> (try split) <;> simp
theorem settleTo_len (f : Nat → Nat) (l : List (Nat × ByteArray)) (s : List ByteArray) : ∀ k, (settleTo f l s k).length = s.length
  | 0 => rfl
  | k + 1 => by
    unfold settleTo
    split
    · rw [settleOne_len, settleTo_len f l s k]
    · exact settleTo_len f l s k
theorem settleTo_succ (f : Nat → Nat) (l : List (Nat × ByteArray)) (s : List ByteArray) (k : Nat) (h : k < l.length) : settleTo f l s (k + 1) = settleOne (f k) l[k] (settleTo f l s k) := by
  rw [settleTo, List.getElem?_eq_getElem h]
namespace Dk
def new (n : Nat) : Dk := ⟨List.replicate n zero128, [], false, none⟩
def bears (d : Dk) : Bool := !(d.gone || d.fuse == some 0)
def burn (d : Dk) : Dk := if d.bears then { d with fuse := d.fuse.map (· - 1) } else { d with gone := true }
def has (d : Dk) (i : Int) : Prop := 0 ≤ i ∧ i < d.safe.length
instance (d : Dk) (i : Int) : Decidable (d.has i) := inferInstanceAs (Decidable (_ ∧ _))
def writeE (d : Dk) (i : Int) (s : ByteArray) : Nat := if d.has i then if s.size = 128 then if d.bears then 0 else 4 else 1 else 2
def write (d : Dk) (i : Int) (s : ByteArray) : Dk := if d.has i then if s.size = 128 then if d.bears then { d.burn with waits := d.waits ++ [(i.toNat, s)] } else d.burn else d else d
def settled (d : Dk) (f : Nat → Nat) : List ByteArray := settleTo f d.waits d.safe d.waits.length
def syncE (d : Dk) : Nat := if d.bears then 0 else 4
def sync (d : Dk) : Dk := if d.bears then { d.burn with safe := d.settled fun _ => 1, waits := [] } else d.burn
def crash (d : Dk) (p : List UInt8) : Dk := ⟨d.settled (fate p), [], false, none⟩
def arm (d : Dk) (k : Int) : Dk := { d with fuse := if 0 ≤ k then some k.toNat else none }
def reachE (d : Dk) (i : Int) : Nat := if d.gone then 4 else if d.has i then 0 else 2
def lose (d : Dk) (i : Int) : Dk := if d.reachE i = 0 then { d with safe := d.safe.set i.toNat zero128, waits := d.waits.filter fun x => !((x.1 : Int) == i) } else d
def at_ (d : Dk) (i : Int) : ByteArray := (lastOf d.waits i).getD (d.safe.getD i.toNat zero128)
def read (d : Dk) (i : Int) : ByteArray := if d.reachE i = 0 then d.at_ i else ⟨#[]⟩

structure Ok (d : Dk) : Prop where
  pos : 0 < d.safe.length
  le : d.safe.length ≤ 512
  sect : ∀ s ∈ d.safe, s.size = 128
  wait : ∀ x ∈ d.waits, x.1 < d.safe.length ∧ x.2.size = 128
  fuse : ∀ f, d.fuse = some f → f < 9223372036854775808
theorem Ok.new {n : Nat} (h0 : 0 < n) (h1 : n ≤ 512) : (Dk.new n).Ok :=
  ⟨by simpa [Dk.new] using h0, by simpa [Dk.new] using h1, fun s hs => by rw [List.eq_of_mem_replicate hs]; exact zero128_size, fun x hx => by simp [Dk.new] at hx, fun f hf => by cases hf⟩
theorem Ok.burn {d : Dk} (h : d.Ok) : d.burn.Ok := by
  unfold Dk.burn
  split
  · refine ⟨h.pos, h.le, h.sect, h.wait, fun f hf => ?_⟩
    cases hd : d.fuse with
    | none => rw [hd] at hf; cases hf
    | some g =>
      rw [hd] at hf
      simp only [Option.map_some, Option.some.injEq] at hf
      have := h.fuse g hd
      omega
  · exact ⟨h.pos, h.le, h.sect, h.wait, h.fuse⟩
theorem burn_safe (d : Dk) : d.burn.safe = d.safe := by unfold Dk.burn; split <;> rfl
theorem burn_waits (d : Dk) : d.burn.waits = d.waits := by unfold Dk.burn; split <;> rfl
theorem Ok.write {d : Dk} (h : d.Ok) (i : Int) (s : ByteArray) : (d.write i s).Ok := by
  unfold Dk.write
  split
  · rename_i hi
    split
    · rename_i hs
      split
      · have hb := h.burn
        refine ⟨hb.pos, hb.le, hb.sect, fun x hx => ?_, hb.fuse⟩
        simp only [burn_safe]
        rcases List.mem_append.1 hx with hx | hx
        · exact h.wait x hx
        · simp at hx; subst hx; exact ⟨by have := hi.1; have := hi.2; simp; omega, hs⟩
      · exact h.burn
    · exact h
  · exact h
theorem settleOne_sect {f : Nat} {x : Nat × ByteArray} {s : List ByteArray} (h : ∀ t ∈ s, t.size = 128) (hx : x.2.size = 128) : ∀ t ∈ settleOne f x s, t.size = 128 := by
  intro t ht
  unfold settleOne at ht
  split at ht
  · rcases List.mem_or_eq_of_mem_set ht with ht | rfl
    · exact h t ht
    · exact hx
  · split at ht
    · rcases List.mem_or_eq_of_mem_set ht with ht | rfl
      · exact h t ht
      · exact zero128_size
    · exact h t ht
theorem settleTo_sect {f : Nat → Nat} {l : List (Nat × ByteArray)} {s : List ByteArray} (h : ∀ t ∈ s, t.size = 128) (hl : ∀ x ∈ l, x.2.size = 128) : ∀ k, ∀ t ∈ settleTo f l s k, t.size = 128
  | 0 => h
  | k + 1 => by
    unfold settleTo
    split
    · rename_i x hx
      exact settleOne_sect (settleTo_sect h hl k) (hl x (List.mem_of_getElem? hx))
    · exact settleTo_sect h hl k
theorem Ok.settled {d : Dk} (h : d.Ok) (f : Nat → Nat) : 0 < (d.settled f).length ∧ (d.settled f).length ≤ 512 ∧ ∀ s ∈ d.settled f, s.size = 128 :=
  ⟨by unfold Dk.settled; rw [settleTo_len]; exact h.pos, by unfold Dk.settled; rw [settleTo_len]; exact h.le, settleTo_sect h.sect (fun x hx => (h.wait x hx).2) _⟩
theorem Ok.sync {d : Dk} (h : d.Ok) : d.sync.Ok := by
  unfold Dk.sync
  split
  · obtain ⟨a, b, c⟩ := h.settled fun _ => 1
    exact ⟨a, b, c, fun x hx => (by cases hx), h.burn.fuse⟩
  · exact h.burn
theorem Ok.crash {d : Dk} (h : d.Ok) (p : List UInt8) : (d.crash p).Ok := by
  obtain ⟨a, b, c⟩ := h.settled (fate p)
  exact ⟨a, b, c, fun x hx => (by cases hx), fun f hf => by cases hf⟩
theorem Ok.arm {d : Dk} (h : d.Ok) (k : Int) (hk : k < 9223372036854775808) : (d.arm k).Ok := by
  refine ⟨h.pos, h.le, h.sect, h.wait, fun f hf => ?_⟩
  simp only [Dk.arm] at hf
  split at hf
  · simp only [Option.some.injEq] at hf; omega
  · cases hf
theorem Ok.lose {d : Dk} (h : d.Ok) (i : Int) : (d.lose i).Ok := by
  unfold Dk.lose
  split
  · refine ⟨by simpa using h.pos, by simpa using h.le, fun s hs => ?_, fun x hx => ?_, h.fuse⟩
    · rcases List.mem_or_eq_of_mem_set hs with hs | rfl
      · exact h.sect s hs
      · exact zero128_size
    · have := h.wait x (List.mem_filter.1 hx).1
      simpa using this
  · exact h
end Dk
end Go.Proofs.Ytbjpnkjddfpmpaa
