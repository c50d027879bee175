/- Chains by their bytes: the plain mathematics of members and leaders, without the program. -/
import Derived.Test.YtgeecddmificeaaSets
namespace Go.Proofs.Ytgeecddmificeaa
set_option linter.unusedVariables false

/-- the byte at a place, as a number; 0 beyond -/
def byt (s : ByteArray) (i : Nat) : Nat := (s.data.toList.getD i 0).toNat
theorem byt_eq (s : ByteArray) (i : Nat) (h : i < s.size) : s[i].toNat = byt s i := by
  have h' : i < s.data.size := h
  simp only [byt, List.getD_eq_getElem?_getD, Array.getElem?_toList]
  rw [Array.getElem?_eq_getElem h']
  rfl
theorem byt_lt (s : ByteArray) (i : Nat) : byt s i < 256 := by
  unfold byt
  exact UInt8.toNat_lt _

/-- is it a block (whoever made it)? -/
def blkOk (x y z : Nat) : Bool :=
  decide (48 ≤ x ∧ x ≤ 54 ∧ ((y = 46 ∧ z = 48) ∨ ((y = 43 ∨ y = 45) ∧ 48 ≤ z ∧ z ≤ 54)))
theorem blkOk_iff {x y z : Nat} : blkOk x y z = true ↔ (48 ≤ x ∧ x ≤ 54 ∧ ((y = 46 ∧ z = 48) ∨ ((y = 43 ∨ y = 45) ∧ 48 ≤ z ∧ z ≤ 54))) := by
  simp only [blkOk, decide_eq_true_eq]

/-- a block, read: its maker, its sign, whom it is about -/
abbrev Blk := Nat × Nat × Nat

/-- those who vote so about a node: the document's list, the program's set -/
def votesL : List Blk → Nat → Nat → List Nat → List Nat
  | [], _, _, acc => acc
  | b :: r, sign, node, acc => votesL r sign node (if b.2.1 = sign ∧ b.2.2 = node ∧ b.1 ∉ acc then acc ++ [b.1] else acc)
def votesS : List Blk → Nat → Nat → Nat → Nat
  | [], _, _, acc => acc
  | b :: r, sign, node, acc => votesS r sign node (if b.2.1 = sign ∧ b.2.2 = node then withS acc b.1 else acc)

theorem votes_same (bl : List Blk) (sign node : Nat) (hb : ∀ b ∈ bl, b.1 < 7) : ∀ (L : List Nat) (S : Nat), S < 128 → (∀ x, x < 7 → (x ∈ L ↔ S.testBit x = true)) → L.length = sizeS S →
    (votesL bl sign node L).length = sizeS (votesS bl sign node S) ∧ votesS bl sign node S < 128 := by
  induction bl with
  | nil => intro L S hS _ hl; exact ⟨hl, hS⟩
  | cons b r ih =>
    intro L S hS hm hl
    have hb7 := hb b (by simp)
    have ih' := ih (fun x hx => hb x (by simp [hx]))
    simp only [votesL, votesS]
    by_cases h1 : b.2.1 = sign ∧ b.2.2 = node
    · by_cases h2 : b.1 ∈ L
      · rw [if_neg (by intro h; exact h.2.2 h2), if_pos h1]
        have ht := (hm b.1 hb7).1 h2
        refine ih' L _ (withS_lt hS hb7) (fun x hx => ?_) (by rw [sizeS_with hS hb7, ht]; simpa using hl)
        rw [has_with hS hb7 hx, hm x hx]
        by_cases e : x = b.1
        · subst e; simp [ht]
        · simp [e]
      · rw [if_pos ⟨h1.1, h1.2, h2⟩, if_pos h1]
        have ht : S.testBit b.1 = false := by
          cases h : S.testBit b.1
          · rfl
          · exact absurd ((hm b.1 hb7).2 h) h2
        refine ih' _ _ (withS_lt hS hb7) (fun x hx => ?_) (by rw [sizeS_with hS hb7, ht]; simp [hl])
        rw [has_with hS hb7 hx, List.mem_append, hm x hx]
        by_cases e : x = b.1
        · subst e; simp
        · simp [e]
    · rw [if_neg (by intro h; exact h1 ⟨h.1, h.2.1⟩), if_neg h1]
      exact ih' L S hS hm hl

/-- how many different makers vote so -/
def votes (bl : List Blk) (sign node : Nat) : Nat := (votesL bl sign node []).length
theorem votes_eq (bl : List Blk) (sign node : Nat) (hb : ∀ b ∈ bl, b.1 < 7) : sizeS (votesS bl sign node 0) = votes bl sign node :=
  (votes_same bl sign node hb [] 0 (by omega) (by simp) (by decide)).1.symm
theorem votesS_lt (bl : List Blk) (sign node : Nat) (hb : ∀ b ∈ bl, b.1 < 7) : votesS bl sign node 0 < 128 :=
  (votes_same bl sign node hb [] 0 (by omega) (by simp) (by decide)).2

/-- the members behind an epoch's blocks, node by node -/
def stepS (bl : List Blk) (s i : Nat) : Nat :=
  if 2 ≤ votes bl 43 i then withS s i
  else if 2 ≤ votes bl 45 i ∧ s.testBit i = true ∧ 4 < sizeS s then withoutS s i
  else s
def countTo (bl : List Blk) (s : Nat) : Nat → Nat
  | 0 => s
  | k + 1 => stepS bl (countTo bl s k) k
theorem stepS_lt {bl : List Blk} {s i : Nat} (hs : s < 128) (hi : i < 7) : stepS bl s i < 128 := by
  unfold stepS
  split
  · exact withS_lt hs hi
  · split
    · exact withoutS_lt hs hi
    · exact hs
theorem countTo_lt {bl : List Blk} {s : Nat} (hs : s < 128) : ∀ k, k ≤ 7 → countTo bl s k < 128
  | 0, _ => hs
  | k + 1, h => stepS_lt (countTo_lt hs k (by omega)) (by omega)
def countS (bl : List Blk) (s : Nat) : Nat := countTo bl s 7
theorem countS_lt {bl : List Blk} {s : Nat} (hs : s < 128) : countS bl s < 128 := countTo_lt hs 7 (by omega)

/-- the block at a place of a chain (from 0 on) -/
def blkAt (c : ByteArray) (k : Nat) : Blk := (byt c (3 * k) - 48, byt c (3 * k + 1), byt c (3 * k + 2) - 48)
def okAt (c : ByteArray) (k : Nat) : Bool := blkOk (byt c (3 * k)) (byt c (3 * k + 1)) (byt c (3 * k + 2))
/-- the members behind the first k blocks; none: the chain may not be -/
def memTo (c : ByteArray) (s0 : Nat) : Nat → Option Nat
  | 0 => some s0
  | k + 1 => match memTo c s0 k with
    | none => none
    | some s => if okAt c k = true ∧ s.testBit (byt c (3 * k) - 48) = true then
        some (if (k + 1) % 3 = 0 then countS [blkAt c (k - 2), blkAt c (k - 1), blkAt c k] s else s) else none
theorem memTo_lt {c : ByteArray} {s0 : Nat} (h0 : s0 < 128) : ∀ k s, memTo c s0 k = some s → s < 128
  | 0, s, h => by simp [memTo] at h; omega
  | k + 1, s, h => by
    rw [memTo] at h
    cases hm : memTo c s0 k with
    | none => rw [hm] at h; cases h
    | some s' =>
      rw [hm] at h
      have hl := memTo_lt h0 k s' hm
      simp only at h
      split at h
      · simp only [Option.some.injEq] at h
        rw [← h]
        split
        · exact countS_lt hl
        · exact hl
      · cases h
theorem memTo_none {c : ByteArray} {s0 k : Nat} (h : memTo c s0 k = none) : ∀ d, memTo c s0 (k + d) = none
  | 0 => h
  | d + 1 => by rw [← Nat.add_assoc, memTo, memTo_none h d]

/-- the members of the block behind a chain -/
def members (n : Nat) (c : ByteArray) : Option Nat :=
  if c.size % 3 = 0 ∧ c.size ≤ 18 then memTo c (firstS n) (c.size / 3) else none
theorem members_lt {n : Nat} {c : ByteArray} {s : Nat} (hn : n < 8) (h : members n c = some s) : s < 128 := by
  unfold members at h
  split at h
  · exact memTo_lt (firstS_lt hn) _ _ h
  · cases h
end Go.Proofs.Ytgeecddmificeaa
