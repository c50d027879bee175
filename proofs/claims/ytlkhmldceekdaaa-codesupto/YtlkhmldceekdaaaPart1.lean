import Derived.KernelRfl
import Derived.Test.YtlkhmldceekdaaaProg
import Derived.WalkKit
import Derived.WalkSpells
import Derived.Maps.AppendAt
import Derived.Deep.QuietTactic
import Derived.BigQuiet
import Derived.WalkSmall
import Derived.RangeFuncRecord
import Derived.Deep.RegionHeld3
import Derived.Deep.DrawnRows
/- Sets of seven nodes as numbers below 128: plain facts, without the program. -/
namespace Go.Proofs.Ytlkhmldceekdaaa
set_option linter.unusedVariables false

/-- the nodes of a set, by rising numbers -/
def listed (s : Nat) : List Nat := (List.range 7).filter (fun i => s.testBit i)
def sizeS (s : Nat) : Nat := (listed s).length
def hasS (s : Nat) (n : Int) : Bool := decide (0 ≤ n) && decide (n < 7) && s.testBit n.toNat
def withS (s n : Nat) : Nat := s ||| (1 <<< n)
def withoutS (s n : Nat) : Nat := s &&& (127 ^^^ (1 <<< n))
def firstS (n : Nat) : Nat := (1 <<< n) - 1

theorem fin_all {p : Nat → Prop} {n : Nat} (h : ∀ i : Fin n, p i.1) {k : Nat} (hk : k < n) : p k := h ⟨k, hk⟩
theorem fin_all2 {p : Nat → Nat → Prop} {n m : Nat} (h : ∀ i : Fin n, ∀ j : Fin m, p i.1 j.1) {k l : Nat} (hk : k < n) (hl : l < m) : p k l := h ⟨k, hk⟩ ⟨l, hl⟩

theorem withS_lt {s n : Nat} (hs : s < 128) (hn : n < 7) : withS s n < 128 :=
  fin_all2 (p := fun s n => withS s n < 128) (by decide +kernel) hs hn
theorem withoutS_lt {s n : Nat} (hs : s < 128) (hn : n < 7) : withoutS s n < 128 :=
  fin_all2 (p := fun s n => withoutS s n < 128) (by decide +kernel) hs hn
theorem sizeS_le {s : Nat} : sizeS s ≤ 7 := by
  have h := List.length_filter_le (fun i => s.testBit i) (List.range 7)
  simpa [sizeS, listed] using h
theorem sizeS_with {s n : Nat} (hs : s < 128) (hn : n < 7) : sizeS (withS s n) = sizeS s + if s.testBit n then 0 else 1 :=
  fin_all2 (p := fun s n => sizeS (withS s n) = sizeS s + if s.testBit n then 0 else 1) (by decide +kernel) hs hn
theorem sizeS_without {s n : Nat} (hs : s < 128) (hn : n < 7) : sizeS (withoutS s n) + (if s.testBit n then 1 else 0) = sizeS s :=
  fin_all2 (p := fun s n => sizeS (withoutS s n) + (if s.testBit n then 1 else 0) = sizeS s) (by decide +kernel) hs hn
theorem has_with {s n m : Nat} (hs : s < 128) (hn : n < 7) (hm : m < 7) : (withS s n).testBit m = (decide (m = n) || s.testBit m) :=
  fin_all2 (p := fun s n => ∀ m : Fin 7, (withS s n).testBit m = (decide (m.1 = n) || s.testBit m)) (by decide +kernel) hs hn ⟨m, hm⟩
theorem has_without {s n m : Nat} (hs : s < 128) (hn : n < 7) (hm : m < 7) : (withoutS s n).testBit m = (!decide (m = n) && s.testBit m) :=
  fin_all2 (p := fun s n => ∀ m : Fin 7, (withoutS s n).testBit m = (!decide (m.1 = n) && s.testBit m)) (by decide +kernel) hs hn ⟨m, hm⟩
theorem mem_listed {s n : Nat} : n ∈ listed s ↔ n < 7 ∧ s.testBit n = true := by simp [listed]
theorem listed_first {n : Nat} (hn : n < 8) : listed (firstS n) = List.range n :=
  fin_all (p := fun n => listed (firstS n) = List.range n) (by decide +kernel) hn
theorem firstS_lt {n : Nat} (hn : n < 8) : firstS n < 128 :=
  fin_all (p := fun n => firstS n < 128) (by decide +kernel) hn
end Go.Proofs.Ytlkhmldceekdaaa

/- The small functions of package set and chains: what each call does. -/
namespace Go.Proofs.Ytlkhmldceekdaaa
open Go.RowKit
set_option linter.unusedVariables false

theorem hide {p : Prop} (h : p) : Hid p := h
theorem ret_int {k : IntKind} {a b : Int} (h : a = b) : Ending.returned (.int k a) = .returned (.int k b) := by rw [h]
theorem ret_bool {a b : Bool} (h : a = b) : Ending.returned (.bool a) = .returned (.bool b) := by rw [h]

set_option maxHeartbeats 400000 in
theorem isNode_any (n : Int) (w : World) :
    Calls Try.prog 55 #[.int .i64 n] w fun e w' => e = .returned (.bool (decide (0 ≤ n) && decide (n < 7))) ∧ w' = w := by
  go_enter Try.func55, Try.ntmps55
  go_wp2
  all_goals go_ret
  · exact ⟨by simp [*], rfl⟩
  · exact ⟨ret_bool (by rw [decide_eq_false (by omega)]; rfl), rfl⟩

set_option maxHeartbeats 400000 in
theorem digit_any (c : Int) (w : World) (h0 : 0 ≤ c) (h1 : c < 256) :
    Calls Try.prog 54 #[.int .u8 c] w fun e w' => e = .returned (.int .i64 (c - 48)) ∧ w' = w := by
  go_enter Try.func54, Try.ntmps54
  go_wp2
  go_ret
  exact ⟨rfl, rfl⟩


set_option maxHeartbeats 400000 in
theorem size_fin (s : Fin 128) (w : World) :
    Calls Try.prog 23 #[.int .i64 (s.1 : Int)] w fun e w' => e = .returned (.int .i64 (sizeS s.1)) ∧ w' = w := by
  go_enter Try.func23, Try.ntmps23
  go_wp2
  go_ret
  refine ⟨ret_int ?_, rfl⟩
  clear w
  revert s
  decide +kernel
theorem size_any (s : Nat) (h : s < 128) (w : World) :
    Calls Try.prog 23 #[.int .i64 (s : Int)] w fun e w' => e = .returned (.int .i64 (sizeS s)) ∧ w' = w :=
  size_fin ⟨s, h⟩ w

set_option maxHeartbeats 400000 in
theorem first_fin (s : Fin 8) (w : World) :
    Calls Try.prog 38 #[.int .i64 (s.1 : Int)] w fun e w' => e = .returned (.int .i64 (firstS s.1)) ∧ w' = w := by
  go_enter Try.func38, Try.ntmps38
  go_wp2
  go_ret
  refine ⟨ret_int ?_, rfl⟩
  clear w
  revert s
  decide +kernel
theorem first_any (s : Nat) (h : s < 8) (w : World) :
    Calls Try.prog 38 #[.int .i64 (s : Int)] w fun e w' => e = .returned (.int .i64 (firstS s)) ∧ w' = w :=
  first_fin ⟨s, h⟩ w

set_option maxHeartbeats 400000 in
theorem with_fin (s : Fin 128) (n : Fin 7) (w : World) :
    Calls Try.prog 57 #[.int .i64 (s.1 : Int), .int .i64 (n.1 : Int)] w fun e w' => e = .returned (.int .i64 (withS s.1 n.1)) ∧ w' = w := by
  go_enter Try.func57, Try.ntmps57
  go_wp2
  go_ret
  refine ⟨ret_int ?_, rfl⟩
  clear w
  revert s n
  decide +kernel
theorem with_any (s n : Nat) (hs : s < 128) (hn : n < 7) (w : World) :
    Calls Try.prog 57 #[.int .i64 (s : Int), .int .i64 (n : Int)] w fun e w' => e = .returned (.int .i64 (withS s n)) ∧ w' = w :=
  with_fin ⟨s, hs⟩ ⟨n, hn⟩ w
set_option maxHeartbeats 400000 in
theorem without_fin (s : Fin 128) (n : Fin 7) (w : World) :
    Calls Try.prog 58 #[.int .i64 (s.1 : Int), .int .i64 (n.1 : Int)] w fun e w' => e = .returned (.int .i64 (withoutS s.1 n.1)) ∧ w' = w := by
  go_enter Try.func58, Try.ntmps58
  go_wp2
  go_ret
  refine ⟨ret_int ?_, rfl⟩
  clear w
  revert s n
  decide +kernel
theorem without_any (s n : Nat) (hs : s < 128) (hn : n < 7) (w : World) :
    Calls Try.prog 58 #[.int .i64 (s : Int), .int .i64 (n : Int)] w fun e w' => e = .returned (.int .i64 (withoutS s n)) ∧ w' = w :=
  without_fin ⟨s, hs⟩ ⟨n, hn⟩ w
set_option maxHeartbeats 400000 in
theorem has_fin (s : Fin 128) (n : Int) (w : World) :
    Calls Try.prog 41 #[.int .i64 (s.1 : Int), .int .i64 n] w fun e w' => e = .returned (.bool (hasS s.1 n)) ∧ w' = w := by
  go_enter Try.func41, Try.ntmps41
  go_wp2_with (go_at_call 55; refine (isNode_any _ _).mono ?_; rintro e w' ⟨rfl, rfl⟩)
  all_goals go_ret
  · rename_i h
    refine ⟨ret_bool ?_, rfl⟩
    obtain ⟨h0, h1⟩ := h
    obtain ⟨n, rfl⟩ := Int.eq_ofNat_of_zero_le h0
    have hn : n < 7 := by omega
    obtain ⟨m, rfl⟩ : ∃ m : Fin 7, n = m.1 := ⟨⟨n, hn⟩, rfl⟩
    clear w' h0 h1 hn
    revert s m
    decide +kernel
  · rename_i h
    refine ⟨ret_bool ?_, rfl⟩
    unfold hasS
    by_cases h0 : 0 ≤ n
    · rw [decide_eq_false (show ¬ n < 7 by omega)]; simp
    · rw [decide_eq_false h0]; simp
theorem has_any (s : Nat) (hs : s < 128) (n : Int) (w : World) :
    Calls Try.prog 41 #[.int .i64 (s : Int), .int .i64 n] w fun e w' => e = .returned (.bool (hasS s n)) ∧ w' = w :=
  has_fin ⟨s, hs⟩ n w
set_option maxHeartbeats 400000 in
theorem blocks_any (s : ByteArray) (w : World) (hs : s.size ≤ maxLen) :
    Calls Try.prog 37 #[.string s] w fun e w' => e = .returned (.int .i64 ((s.size / 3 : Nat) : Int)) ∧ w' = w := by
  unfold maxLen at hs
  go_enter Try.func37, Try.ntmps37
  go_wp2
  go_ret
  exact ⟨by first | rfl | simp, rfl⟩
set_option maxHeartbeats 400000 in
theorem nodes_any (s : Int) (w : World) :
    Calls Try.prog 24 #[.int .i64 s] w fun e w' => e = .returned (.func (.func 44) #[] #[.pointer (some ⟨w.heap.size, 0, none⟩)]) ∧ w' = w.alloc (.cells #[.int .i64 s] 66) := by
  go_enter Try.func24, Try.ntmps24
  go_wp2
  go_ret
  exact ⟨rfl, rfl⟩
set_option maxHeartbeats 400000 in
theorem entries_any (s : ByteArray) (w : World) :
    Calls Try.prog 39 #[.string s] w fun e w' => e = .returned (.func (.func 53) #[] #[.pointer (some ⟨w.heap.size, 0, none⟩)]) ∧ w' = w.alloc (.cells #[.string s] 9) := by
  go_enter Try.func39, Try.ntmps39
  go_wp2
  go_ret
  exact ⟨rfl, rfl⟩
end Go.Proofs.Ytlkhmldceekdaaa

/- Chains by their bytes: the plain mathematics of members and leaders, without the program. -/
namespace Go.Proofs.Ytlkhmldceekdaaa
set_option linter.unusedVariables false

/-- the byte at a place, as a number; 0 beyond -/
def byt (s : ByteArray) (i : Nat) : Nat := (s.data.toList.getD i 0).toNat
theorem byt_eq (s : ByteArray) (i : Nat) (h : i < s.size) : s[i].toNat = byt s i := by
  have h' : i < s.data.size := h
  simp only [byt, List.getD_eq_getElem?_getD, Array.getElem?_toList]
  rw [Array.getElem?_eq_getElem h']
  rfl
theorem byt_lt (s : ByteArray) (i : Nat) : byt s i < 256 := by
  unfold byt
  exact UInt8.toNat_lt _

/-- is it a block (whoever made it)? -/
def blkOk (x y z : Nat) : Bool :=
  decide (48 ≤ x ∧ x ≤ 54 ∧ ((y = 46 ∧ z = 48) ∨ ((y = 43 ∨ y = 45) ∧ 48 ≤ z ∧ z ≤ 54)))
theorem blkOk_iff {x y z : Nat} : blkOk x y z = true ↔ (48 ≤ x ∧ x ≤ 54 ∧ ((y = 46 ∧ z = 48) ∨ ((y = 43 ∨ y = 45) ∧ 48 ≤ z ∧ z ≤ 54))) := by
  simp only [blkOk, decide_eq_true_eq]

/-- a block, read: its maker, its sign, whom it is about -/
abbrev Blk := Nat × Nat × Nat

/-- those who vote so about a node: the document's list, the program's set -/
def votesL : List Blk → Nat → Nat → List Nat → List Nat
  | [], _, _, acc => acc
  | b :: r, sign, node, acc => votesL r sign node (if b.2.1 = sign ∧ b.2.2 = node ∧ b.1 ∉ acc then acc ++ [b.1] else acc)
def votesS : List Blk → Nat → Nat → Nat → Nat
  | [], _, _, acc => acc
  | b :: r, sign, node, acc => votesS r sign node (if b.2.1 = sign ∧ b.2.2 = node then withS acc b.1 else acc)

theorem votes_same (bl : List Blk) (sign node : Nat) (hb : ∀ b ∈ bl, b.1 < 7) : ∀ (L : List Nat) (S : Nat), S < 128 → (∀ x, x < 7 → (x ∈ L ↔ S.testBit x = true)) → L.length = sizeS S →
    (votesL bl sign node L).length = sizeS (votesS bl sign node S) ∧ votesS bl sign node S < 128 := by
  induction bl with
  | nil => intro L S hS _ hl; exact ⟨hl, hS⟩
  | cons b r ih =>
    intro L S hS hm hl
    have hb7 := hb b (by simp)
    have ih' := ih (fun x hx => hb x (by simp [hx]))
    simp only [votesL, votesS]
    by_cases h1 : b.2.1 = sign ∧ b.2.2 = node
    · by_cases h2 : b.1 ∈ L
      · rw [if_neg (by intro h; exact h.2.2 h2), if_pos h1]
        have ht := (hm b.1 hb7).1 h2
        refine ih' L _ (withS_lt hS hb7) (fun x hx => ?_) (by rw [sizeS_with hS hb7, ht]; simpa using hl)
        rw [has_with hS hb7 hx, hm x hx]
        by_cases e : x = b.1
        · subst e; simp [ht]
        · simp [e]
      · rw [if_pos ⟨h1.1, h1.2, h2⟩, if_pos h1]
        have ht : S.testBit b.1 = false := by
          cases h : S.testBit b.1
          · rfl
          · exact absurd ((hm b.1 hb7).2 h) h2
        refine ih' _ _ (withS_lt hS hb7) (fun x hx => ?_) (by rw [sizeS_with hS hb7, ht]; simp [hl])
        rw [has_with hS hb7 hx, List.mem_append, hm x hx]
        by_cases e : x = b.1
        · subst e; simp
        · simp [e]
    · rw [if_neg (by intro h; exact h1 ⟨h.1, h.2.1⟩), if_neg h1]
      exact ih' L S hS hm hl

/-- how many different makers vote so -/
def votes (bl : List Blk) (sign node : Nat) : Nat := (votesL bl sign node []).length
theorem votes_eq (bl : List Blk) (sign node : Nat) (hb : ∀ b ∈ bl, b.1 < 7) : sizeS (votesS bl sign node 0) = votes bl sign node :=
  (votes_same bl sign node hb [] 0 (by omega) (by simp) (by decide)).1.symm
theorem votesS_lt (bl : List Blk) (sign node : Nat) (hb : ∀ b ∈ bl, b.1 < 7) : votesS bl sign node 0 < 128 :=
  (votes_same bl sign node hb [] 0 (by omega) (by simp) (by decide)).2

/-- the members behind an epoch's blocks, node by node -/
def stepS (bl : List Blk) (s i : Nat) : Nat :=
  if 2 ≤ votes bl 43 i then withS s i
  else if 2 ≤ votes bl 45 i ∧ s.testBit i = true ∧ 4 < sizeS s then withoutS s i
  else s
def countTo (bl : List Blk) (s : Nat) : Nat → Nat
  | 0 => s
  | k + 1 => stepS bl (countTo bl s k) k
theorem stepS_lt {bl : List Blk} {s i : Nat} (hs : s < 128) (hi : i < 7) : stepS bl s i < 128 := by
  unfold stepS
  split
  · exact withS_lt hs hi
  · split
    · exact withoutS_lt hs hi
    · exact hs
theorem countTo_lt {bl : List Blk} {s : Nat} (hs : s < 128) : ∀ k, k ≤ 7 → countTo bl s k < 128
  | 0, _ => hs
  | k + 1, h => stepS_lt (countTo_lt hs k (by omega)) (by omega)
def countS (bl : List Blk) (s : Nat) : Nat := countTo bl s 7
theorem countS_lt {bl : List Blk} {s : Nat} (hs : s < 128) : countS bl s < 128 := countTo_lt hs 7 (by omega)

/-- the block at a place of a chain (from 0 on) -/
def blkAt (c : ByteArray) (k : Nat) : Blk := (byt c (3 * k) - 48, byt c (3 * k + 1), byt c (3 * k + 2) - 48)
def okAt (c : ByteArray) (k : Nat) : Bool := blkOk (byt c (3 * k)) (byt c (3 * k + 1)) (byt c (3 * k + 2))
/-- the members behind the first k blocks; none: the chain may not be -/
def memTo (c : ByteArray) (s0 : Nat) : Nat → Option Nat
  | 0 => some s0
  | k + 1 => match memTo c s0 k with
    | none => none
    | some s => if okAt c k = true ∧ s.testBit (byt c (3 * k) - 48) = true then
        some (if (k + 1) % 3 = 0 then countS [blkAt c (k - 2), blkAt c (k - 1), blkAt c k] s else s) else none
theorem memTo_lt {c : ByteArray} {s0 : Nat} (h0 : s0 < 128) : ∀ k s, memTo c s0 k = some s → s < 128
  | 0, s, h => by simp [memTo] at h; omega
  | k + 1, s, h => by
    rw [memTo] at h
    cases hm : memTo c s0 k with
    | none => rw [hm] at h; cases h
    | some s' =>
      rw [hm] at h
      have hl := memTo_lt h0 k s' hm
      simp only at h
      split at h
      · simp only [Option.some.injEq] at h
        rw [← h]
        split
        · exact countS_lt hl
        · exact hl
      · cases h
theorem memTo_none {c : ByteArray} {s0 k : Nat} (h : memTo c s0 k = none) : ∀ d, memTo c s0 (k + d) = none
  | 0 => h
  | d + 1 => by rw [← Nat.add_assoc, memTo, memTo_none h d]

/-- the members of the block behind a chain -/
def members (n : Nat) (c : ByteArray) : Option Nat :=
  if c.size % 3 = 0 ∧ c.size ≤ 18 then memTo c (firstS n) (c.size / 3) else none
theorem members_lt {n : Nat} {c : ByteArray} {s : Nat} (hn : n < 8) (h : members n c = some s) : s < 128 := by
  unfold members at h
  split at h
  · exact memTo_lt (firstS_lt hn) _ _ h
  · cases h
end Go.Proofs.Ytlkhmldceekdaaa

/- Messages: the plain mathematics of what may be, without the program. -/
namespace Go.Proofs.Ytlkhmldceekdaaa
set_option linter.unusedVariables false

/-- a Move, a message -/
structure Mv where
  node : Int
  prep : Int
  chain : ByteArray
  by' : Int
structure Mg where
  kind : Int
  frm : Int
  height : Int
  round : Int
  chain : ByteArray
  prep : Int
  by' : Int
  moves : List Mv

/-- may this stand in a Change, or in a Move? -/
def mvOk (p : Int) (c : ByteArray) (b h r : Int) : Bool :=
  if p = -1 then decide (c.size = 0 ∧ b = 0) else decide (0 ≤ p ∧ p < r ∧ (c.size : Int) = 3 * h ∧ 0 ≤ b ∧ b ≤ 127)
def headOk (m : Mg) : Bool :=
  decide (0 ≤ m.frm ∧ m.frm ≤ 6 ∧ 1 ≤ m.height ∧ m.height ≤ (if m.kind = 6 then 6 else 7) ∧ 0 ≤ m.round ∧ m.round ≤ (if m.kind = 6 then 0 else 9))
/-- rising nodes, each Move as it may be -/
def riseOk (h r : Int) : Int → List Mv → Bool
  | _, [] => true
  | last, x :: l => decide (last < x.node ∧ 0 ≤ x.node ∧ x.node ≤ 6) && (mvOk x.prep x.chain x.by' h r && riseOk h r x.node l)
def movesOk (m : Mg) : Bool :=
  if m.round = 0 then decide (m.moves.length = 0) else decide (1 ≤ m.moves.length ∧ m.moves.length ≤ 7) && riseOk m.height m.round (-1) m.moves
def longOk (m : Mg) : Bool := decide ((m.chain.size : Int) = 3 * m.height)
def bodyOk (m : Mg) : Bool :=
  if m.kind = 1 then longOk m && (decide (m.prep = -1 ∧ m.by' = 0) && movesOk m)
  else if m.kind = 2 ∨ m.kind = 3 then longOk m && decide (m.prep = -1 ∧ m.by' = 0 ∧ m.moves.length = 0)
  else if m.kind = 4 then decide (m.moves.length = 0) && mvOk m.prep m.chain m.by' m.height m.round
  else if m.kind = 5 then longOk m && decide (m.prep = -1 ∧ 0 ≤ m.by' ∧ m.by' ≤ 127 ∧ m.moves.length = 0)
  else if m.kind = 6 then decide (m.chain.size = 0 ∧ m.prep = -1 ∧ m.by' = 0 ∧ m.moves.length = 0)
  else false
/-- may the message be? -/
def mayB (m : Mg) : Bool := headOk m && bodyOk m
end Go.Proofs.Ytlkhmldceekdaaa

/- The small functions of package wire and of the document's wire. -/
namespace Go.Proofs.Ytlkhmldceekdaaa
open Go.RowKit
set_option linter.unusedVariables false

set_option maxHeartbeats 400000 in
theorem within_any (n lo hi : Int) (w : World) :
    Calls Try.prog 68 #[.int .i64 n, .int .i64 lo, .int .i64 hi] w fun e w' => e = .returned (.bool (decide (lo ≤ n ∧ n ≤ hi))) ∧ w' = w := by
  go_enter Try.func68, Try.ntmps68
  go_wp2
  all_goals go_ret
  all_goals refine ⟨ret_bool ?_, rfl⟩
  all_goals rw [Bool.eq_iff_iff]
  all_goals simp only [Bool.and_eq_true, decide_eq_true_eq, Bool.false_eq_true, false_iff]
  all_goals omega
set_option maxHeartbeats 400000 in
theorem between_any (n lo hi : Int) (w : World) :
    Calls Try.prog 50 #[.int .i64 n, .int .i64 lo, .int .i64 hi] w fun e w' => e = .returned (.bool (decide (lo ≤ n ∧ n ≤ hi))) ∧ w' = w := by
  go_enter Try.func50, Try.ntmps50
  go_wp2
  all_goals go_ret
  all_goals refine ⟨ret_bool ?_, rfl⟩
  all_goals rw [Bool.eq_iff_iff]
  all_goals simp only [Bool.and_eq_true, decide_eq_true_eq, Bool.false_eq_true, false_iff]
  all_goals omega
set_option maxHeartbeats 400000 in
theorem isSet_any (n : Int) (w : World) :
    Calls Try.prog 72 #[.int .i64 n] w fun e w' => e = .returned (.bool (decide (0 ≤ n ∧ n ≤ 127))) ∧ w' = w := by
  go_enter Try.func72, Try.ntmps72
  go_wp2
  all_goals go_ret
  all_goals refine ⟨ret_bool ?_, rfl⟩
  all_goals rw [Bool.eq_iff_iff]
  all_goals simp only [Bool.and_eq_true, decide_eq_true_eq, Bool.false_eq_true, false_iff]
  all_goals omega

/-- a Move as a value; a message as one, its Moves a slice -/
abbrev mvV (x : Mv) : Value := .agg #[.int .i64 x.node, .int .i64 x.prep, .string x.chain, .int .i64 x.by']
abbrev mgV (m : Mg) (v : Value) : Value := .agg #[.int .i64 m.kind, .int .i64 m.frm, .int .i64 m.height, .int .i64 m.round, .string m.chain, .int .i64 m.prep, .int .i64 m.by', v]

theorem bytes_nil {c : ByteArray} : c.toList = [] ↔ c.size = 0 := by
  rw [toList_nil_iff_emptyBytes]
  constructor
  · rintro rfl; rfl
  · intro h
    apply ByteArray.ext
    exact Array.eq_empty_of_size_eq_zero h
theorem mvOk_iff {p : Int} {c : ByteArray} {b h r : Int} : mvOk p c b h r = true ↔ (p = -1 ∧ c.size = 0 ∧ b = 0) ∨ (p ≠ -1 ∧ 0 ≤ p ∧ p < r ∧ (c.size : Int) = 3 * h ∧ 0 ≤ b ∧ b ≤ 127) := by
  unfold mvOk
  by_cases hp : p = -1
  · rw [if_pos hp, decide_eq_true_eq]
    constructor
    · intro h1; exact .inl ⟨hp, h1⟩
    · rintro (⟨_, h1⟩ | ⟨h1, _⟩)
      · exact h1
      · exact absurd hp h1
  · rw [if_neg hp, decide_eq_true_eq]
    constructor
    · intro h1; exact .inr ⟨hp, h1⟩
    · rintro (⟨h1, _⟩ | ⟨_, h1⟩)
      · exact absurd h1 hp
      · exact h1

set_option maxHeartbeats 1000000 in
theorem moveMayBe_any (x : Mv) (h r : Int) (w : World) (hh : 0 ≤ h ∧ h ≤ 300) (hr : 0 ≤ r ∧ r ≤ 300) (hc : x.chain.size ≤ maxLen) :
    Calls Try.prog 71 #[mvV x, .int .i64 h, .int .i64 r] w fun e w' => e = .returned (.bool (mvOk x.prep x.chain x.by' h r)) ∧ Below w.heap.size w w' := by
  unfold maxLen at hc
  obtain ⟨node, p, c, b⟩ := x
  dsimp only at hc ⊢
  go_enter Try.func71, Try.ntmps71
  go_wp2_with (first
    | (go_at_call 68; refine (within_any _ _ _ _).mono ?_; rintro e w' ⟨rfl, rfl⟩)
    | (go_at_call 72; refine (isSet_any _ _).mono ?_; rintro e w' ⟨rfl, rfl⟩))
  all_goals go_ret
  all_goals refine ⟨ret_bool ?_, (Below.refl _ w).alloc (Nat.le_refl _) _⟩
  all_goals rw [Bool.eq_iff_iff, mvOk_iff]
  all_goals simp only [bytes_nil, Bool.and_eq_true, decide_eq_true_eq, beq_iff_eq, beq_eq_false_iff_ne, ne_eq, Bool.false_eq_true, false_iff] at *
  all_goals omega
set_option maxHeartbeats 1000000 in
theorem moved_any (p : Int) (c : ByteArray) (b h r : Int) (w : World) (hh : 0 ≤ h ∧ h ≤ 300) (hr : 0 ≤ r ∧ r ≤ 300) (hc : c.size ≤ maxLen) :
    Calls Try.prog 51 #[.int .i64 p, .string c, .int .i64 b, .int .i64 h, .int .i64 r] w fun e w' => e = .returned (.bool (mvOk p c b h r)) ∧ w' = w := by
  unfold maxLen at hc
  go_enter Try.func51, Try.ntmps51
  go_wp2_with (go_at_call 50; refine (between_any _ _ _ _).mono ?_; rintro e w' ⟨rfl, rfl⟩)
  all_goals go_ret
  all_goals refine ⟨ret_bool ?_, rfl⟩
  all_goals rw [Bool.eq_iff_iff, mvOk_iff]
  all_goals simp only [bytes_nil, beq_iff_eq, beq_eq_false_iff_ne, ne_eq, Bool.false_eq_true, false_iff] at *
  all_goals omega

set_option maxHeartbeats 1000000 in
theorem hasChain_any (m : Mg) (v : Value) (w : World) (hh : 0 ≤ m.height ∧ m.height ≤ 300) (hc : m.chain.size ≤ maxLen) (hv : ∃ ao n cap, v = .slice ao n cap) :
    Calls Try.prog 69 #[mgV m v] w fun e w' => e = .returned (.bool (longOk m)) ∧ Below w.heap.size w w' := by
  obtain ⟨ao, n, cap, rfl⟩ := hv
  unfold maxLen at hc
  obtain ⟨k, f, h, r, c, p, b, l⟩ := m
  dsimp only at hc hh ⊢
  go_enter Try.func69, Try.ntmps69
  go_wp2
  go_ret
  refine ⟨ret_bool ?_, (Below.refl _ w).alloc (Nat.le_refl _) _⟩
  rw [Bool.eq_iff_iff]
  simp only [longOk, beq_iff_eq, decide_eq_true_eq]
  omega
set_option maxHeartbeats 1000000 in
theorem headMayBe_any (m : Mg) (v : Value) (w : World) (hv : ∃ ao n cap, v = .slice ao n cap) :
    Calls Try.prog 62 #[mgV m v] w fun e w' => e = .returned (.bool (headOk m)) ∧ Below w.heap.size w w' := by
  obtain ⟨ao, n, cap, rfl⟩ := hv
  obtain ⟨k, f, h, r, c, p, b, l⟩ := m
  go_enter Try.func62, Try.ntmps62
  go_wp2_with (first
    | (go_at_call 68; refine (within_any _ _ _ _).mono ?_; rintro e w' ⟨rfl, rfl⟩)
    | (go_at_call 55; refine (isNode_any _ _).mono ?_; rintro e w' ⟨rfl, rfl⟩))
  all_goals go_ret
  all_goals refine ⟨ret_bool ?_, (Below.refl _ w).alloc (Nat.le_refl _) _⟩
  all_goals rw [Bool.eq_iff_iff]
  all_goals simp only [headOk, Bool.and_eq_true, decide_eq_true_eq, beq_iff_eq, beq_eq_false_iff_ne, ne_eq, Bool.false_eq_true, false_iff] at *
  all_goals (first | omega | (split <;> omega) | (split <;> split <;> omega))
end Go.Proofs.Ytlkhmldceekdaaa

/- wire.MayBe: what may be. -/
namespace Go.Proofs.Ytlkhmldceekdaaa
open Go.RowKit
set_option linter.unusedVariables false

/-- a slice value that reads as these Moves -/
def MovesAt (w : World) (v : Value) (l : List Mv) : Prop :=
  (∃ ao cap, v = .slice ao l.length cap ∧ (0 < l.length → ∃ b off, ao = some ⟨b, off, none⟩ ∧ b < w.heap.size ∧ ∀ i (h : i < l.length),
    w.cell? ⟨b, off + i * 4, none⟩ = some (.int .i64 l[i].node) ∧ w.cell? ⟨b, off + i * 4 + 1, none⟩ = some (.int .i64 l[i].prep) ∧ w.cell? ⟨b, off + i * 4 + 2, none⟩ = some (.string l[i].chain) ∧ w.cell? ⟨b, off + i * 4 + 3, none⟩ = some (.int .i64 l[i].by'))) ∧
  (∀ x ∈ l, x.chain.size ≤ maxLen) ∧ l.length ≤ 2000000
theorem MovesAt.slice {w : World} {v : Value} {l : List Mv} (h : MovesAt w v l) : ∃ ao n cap, v = .slice ao n cap := by
  obtain ⟨⟨ao, cap, h, _⟩, _⟩ := h; exact ⟨_, _, _, h⟩
theorem MovesAt.below {w w' : World} {v : Value} {l : List Mv} (h : MovesAt w v l) (hb : Below w.heap.size w w') : MovesAt w' v l := by
  obtain ⟨⟨ao, cap, rfl, hc⟩, h2⟩ := h
  refine ⟨⟨ao, cap, rfl, fun h0 => ?_⟩, h2⟩
  obtain ⟨b, off, rfl, hlt, hcell⟩ := hc h0
  refine ⟨b, off, rfl, Nat.lt_of_lt_of_le hlt hb.size, fun i hi => ?_⟩
  obtain ⟨c0, c1, c2, c3⟩ := hcell i hi
  exact ⟨(hb.cell (p := ⟨b, _, none⟩) hlt).trans c0, (hb.cell (p := ⟨b, _, none⟩) hlt).trans c1, (hb.cell (p := ⟨b, _, none⟩) hlt).trans c2, (hb.cell (p := ⟨b, _, none⟩) hlt).trans c3⟩

theorem moveMayBe_is (t : Bool) (x : Mv) (h r : Int) (w : World) (hh : 0 ≤ h ∧ h ≤ 300) (hr : 0 ≤ r ∧ r ≤ 300) (hc : x.chain.size ≤ maxLen) (ht : mvOk x.prep x.chain x.by' h r = t) :
    Calls Try.prog 71 #[mvV x, .int .i64 h, .int .i64 r] w fun e w' => e = .returned (.bool t) ∧ Below w.heap.size w w' := by
  rw [← ht]; exact moveMayBe_any x h r w hh hr hc

/-- a box that was made at the start stays -/
theorem box_size {w wr : World} {o : Obj} (h : Below (w.heap.size + 1) (w.alloc o) wr) : w.heap.size + 1 ≤ wr.heap.size := by
  have := h.size
  have e : (w.alloc o).heap.size = w.heap.size + 1 := Array.size_push _
  omega
theorem box_cell {w wr : World} {cs : Array Value} {t : TypeId} {i : Nat} {v : Value} (h : Below (w.heap.size + 1) (w.alloc (.cells cs t)) wr) (hi : cs[i]? = some v) : wr.cell? ⟨w.heap.size, i, none⟩ = some v := by
  rw [h.cell (p := ⟨w.heap.size, i, none⟩) (Nat.lt_succ_self _)]
  simp only [World.cell?, World.alloc_heap_new]
  exact hi
theorem within_is (t : Bool) (n lo hi : Int) (w : World) (ht : decide (lo ≤ n ∧ n ≤ hi) = t) :
    Calls Try.prog 68 #[.int .i64 n, .int .i64 lo, .int .i64 hi] w fun e w' => e = .returned (.bool t) ∧ w' = w := by
  rw [← ht]; exact within_any n lo hi w
theorem isNode_is (t : Bool) (n : Int) (w : World) (ht : decide (0 ≤ n ∧ n ≤ 6) = t) :
    Calls Try.prog 55 #[.int .i64 n] w fun e w' => e = .returned (.bool t) ∧ w' = w := by
  rw [← ht]
  refine (isNode_any n w).mono ?_
  rintro e w' ⟨rfl, rfl⟩
  refine ⟨ret_bool ?_, rfl⟩
  rw [Bool.eq_iff_iff]
  simp only [Bool.and_eq_true, decide_eq_true_eq]
  omega
theorem riseOk_step {h r z : Int} {l : List Mv} {j : Nat} (hj : j < l.length) (h1 : z < l[j].node) (h2 : 0 ≤ l[j].node ∧ l[j].node ≤ 6) (h3 : mvOk l[j].prep l[j].chain l[j].by' h r = true) : riseOk h r z (l.drop j) = riseOk h r l[j].node (l.drop (j + 1)) := by
  rw [List.drop_eq_getElem_cons hj, riseOk, h3, decide_eq_true ⟨h1, h2⟩]; rfl
theorem riseOk_no {h r z : Int} {l : List Mv} {j : Nat} (hj : j < l.length) (hn : ¬ (z < l[j].node ∧ (0 ≤ l[j].node ∧ l[j].node ≤ 6) ∧ mvOk l[j].prep l[j].chain l[j].by' h r = true)) : riseOk h r z (l.drop j) = false := by
  rw [List.drop_eq_getElem_cons hj, riseOk]
  cases hm : mvOk l[j].prep l[j].chain l[j].by' h r with
  | false => simp
  | true =>
    rw [decide_eq_false (fun hx => hn ⟨hx.1, hx.2, hm⟩)]; rfl

set_option maxRecDepth 100000 in
set_option maxHeartbeats 2000000 in
theorem movesMayBe_any (m : Mg) (v : Value) (w : World) (hv : MovesAt w v m.moves) (hh : 0 ≤ m.height ∧ m.height ≤ 300) (hr : 0 ≤ m.round ∧ m.round ≤ 300) :
    Calls Try.prog 70 #[mgV m v] w fun e w' => e = .returned (.bool (movesOk m)) ∧ Below w.heap.size w w' := by
  obtain ⟨⟨ao, cap, rfl, hcell⟩, hsz, hlen⟩ := hv
  obtain ⟨k, f, h, r, c, p, b, l⟩ := m
  dsimp only at hh hr hcell hsz hlen ⊢
  have HC := hide hcell
  have HS := hide hsz
  clear hcell hsz
  have hB0 : Below w.heap.size w (w.alloc (.cells #[.int .i64 k, .int .i64 f, .int .i64 h, .int .i64 r, .string c, .int .i64 p, .int .i64 b, .slice ao l.length cap] 39)) := (Below.refl _ w).alloc (Nat.le_refl _) _
  by_cases h0 : r = 0
  · have HM : Hid (movesOk ⟨k, f, h, r, c, p, b, l⟩ = decide (l.length = 0)) := if_pos h0
    have h0B : (r == 0) = true := by simp [h0]
    have H0 := hide h0
    clear h0
    go_enter Try.func70, Try.ntmps70
    go_wp2
    go_ret
    refine ⟨ret_bool ?_, hB0⟩
    rw [HM.out, Bool.eq_iff_iff]
    simp
  · have HM : Hid (movesOk ⟨k, f, h, r, c, p, b, l⟩ = (decide (1 ≤ l.length ∧ l.length ≤ 7) && riseOk h r (-1) l)) := if_neg h0
    have h0B : (r == 0) = false := by simp [h0]
    by_cases hl : 1 ≤ l.length ∧ l.length ≤ 7
    · have HM2 : Hid (movesOk ⟨k, f, h, r, c, p, b, l⟩ = riseOk h r (-1) l) := by
        show _ = _
        rw [HM.out, decide_eq_true hl]; rfl
      obtain ⟨b0, off, rfl, hlt0, hcell⟩ := HC.out (by omega)
      have HC2 := hide hcell
      obtain ⟨hl1, hl7⟩ := hl
      clear hcell HC
      go_enter Try.func70, Try.ntmps70
      go_wp2_with (go_at_call 68; refine (within_is true _ _ _ _ (by simp; omega)).mono ?_; rintro e w' ⟨rfl, rfl⟩)
      go_loopw [3, 21] (fun lst i wr => ∃ (j : Nat) (z : Int), j ≤ l.length ∧ i = .int .i64 (j : Int) ∧ lst = .int .i64 z ∧ Hid (riseOk h r (-1) l = riseOk h r z (l.drop j)) ∧ Below w.heap.size w wr ∧ Below (w.heap.size + 1) (w.alloc (.cells #[.int .i64 k, .int .i64 f, .int .i64 h, .int .i64 r, .string c, .int .i64 p, .int .i64 b, .slice (some ⟨b0, off, none⟩) l.length cap] 39)) wr) (fun _ i _ => l.length - (intOf i).toNat)
      case atStart => exact ⟨0, -1, by omega, rfl, rfl, rfl, hB0, Below.refl _ _⟩
      case round =>
        obtain ⟨j, z, hj, rfl, rfl, hrise, hB, hB1⟩ := hrel
        have s1 := box_size hB1
        have x2 : wr.cell? ⟨w.heap.size, 2, none⟩ = some (.int .i64 h) := box_cell hB1 rfl
        have x3 : wr.cell? ⟨w.heap.size, 3, none⟩ = some (.int .i64 r) := box_cell hB1 rfl
        by_cases hlt : j < l.length
        · obtain ⟨c0, c1, c2, c3⟩ := HC2.out j hlt
          rw [← hB.cell (p := ⟨b0, off + j * 4, none⟩) hlt0] at c0
          rw [← hB.cell (p := ⟨b0, off + j * 4 + 1, none⟩) hlt0] at c1
          rw [← hB.cell (p := ⟨b0, off + j * 4 + 2, none⟩) hlt0] at c2
          rw [← hB.cell (p := ⟨b0, off + j * 4 + 3, none⟩) hlt0] at c3
          have hsz := HS.out _ (List.getElem_mem hlt)
          have hst := hide (fun h1 h2 h3 => riseOk_step (h := h) (r := r) (z := z) hlt h1 h2 h3)
          have hno := hide (fun h1 => riseOk_no (h := h) (r := r) (z := z) hlt h1)
          obtain ⟨x, hx⟩ : ∃ x, l[j] = x := ⟨_, rfl⟩
          rw [hx] at c0 c1 c2 c3 hsz hst hno
          clear hx
          obtain ⟨n, q, d, y⟩ := x
          dsimp only at c0 c1 c2 c3 hsz hst hno
          by_cases g1 : n ≤ z
          · have g1B : decide (n ≤ z) = true := decide_eq_true g1
            go_wp2
            go_ret
            refine ⟨ret_bool ?_, hB.trans ((Below.refl _ wr).alloc hB.size _)⟩
            rw [HM2.out, hrise.out, hno.out (by omega)]
          · have g1B : decide (n ≤ z) = false := decide_eq_false g1
            have hA : Below wr.heap.size wr (wr.alloc (.cells #[.int .i64 n, .int .i64 q, .string d, .int .i64 y] 43)) := (Below.refl _ wr).alloc (Nat.le_refl _) _
            have y2 := (hA.cell (p := ⟨w.heap.size, 2, none⟩) s1).trans x2
            have y3 := (hA.cell (p := ⟨w.heap.size, 3, none⟩) s1).trans x3
            by_cases g2 : 0 ≤ n ∧ n ≤ 6
            · cases g3 : mvOk q d y h r with
              | true =>
                have G3 := hide g3
                clear g3
                go_wp2_with (first
                  | (go_at_call 55; refine (isNode_is true _ _ (decide_eq_true g2)).mono ?_; rintro e w' ⟨rfl, rfl⟩)
                  | (go_at_call 71; refine (moveMayBe_is true ⟨n, q, d, y⟩ _ _ _ hh hr hsz G3.out).mono ?_; rintro e w3 ⟨rfl, hb3⟩; have z0 := box_cell (i := 0) (hb3.mono (by rw [World.size_alloc]; exact Nat.le_refl _)) rfl))
                go_roundw
                case rel => exact ⟨j + 1, n, by omega, by go_num, rfl, by rw [hrise.out, hst.out (by omega) g2 G3.out]; rfl, hB.trans (((Below.refl _ wr).alloc hB.size _).trans (hb3.mono (by rw [World.size_alloc]; omega))), hB1.trans (((Below.refl _ wr).alloc s1 _).trans (hb3.mono (by rw [World.size_alloc]; omega)))⟩
                case measure => simp [intOf]; omega
              | false =>
                have G3 := hide g3
                clear g3
                go_wp2_with (first
                  | (go_at_call 55; refine (isNode_is true _ _ (decide_eq_true g2)).mono ?_; rintro e w' ⟨rfl, rfl⟩)
                  | (go_at_call 71; refine (moveMayBe_is false ⟨n, q, d, y⟩ _ _ _ hh hr hsz G3.out).mono ?_; rintro e w3 ⟨rfl, hb3⟩))
                go_ret
                refine ⟨ret_bool ?_, hB.trans (((Below.refl _ wr).alloc hB.size _).trans (hb3.mono (by rw [World.size_alloc]; omega)))⟩
                rw [HM2.out, hrise.out, hno.out (fun h1 => by have := G3.out; rw [h1.2.2] at this; cases this)]
            · go_wp2_with (go_at_call 55; refine (isNode_is false _ _ (decide_eq_false g2)).mono ?_; rintro e w' ⟨rfl, rfl⟩)
              go_ret
              refine ⟨ret_bool ?_, hB.trans ((Below.refl _ wr).alloc hB.size _)⟩
              rw [HM2.out, hrise.out, hno.out (fun h1 => g2 h1.2.1)]
        · go_wp2
          go_ret
          refine ⟨ret_bool ?_, hB⟩
          rw [HM2.out, hrise.out, List.drop_eq_nil_of_le (by omega)]
          rfl
    · have HM2 : Hid (movesOk ⟨k, f, h, r, c, p, b, l⟩ = false) := by
        show _ = _
        rw [HM.out, decide_eq_false hl]; rfl
      go_enter Try.func70, Try.ntmps70
      go_wp2_with (go_at_call 68; refine (within_is false _ _ _ _ (by simp; omega)).mono ?_; rintro e w' ⟨rfl, rfl⟩)
      go_ret
      exact ⟨ret_bool HM2.out.symm, hB0⟩
end Go.Proofs.Ytlkhmldceekdaaa

/- wire.bodyMayBe, wire.MayBe. -/
namespace Go.Proofs.Ytlkhmldceekdaaa
open Go.RowKit
set_option linter.unusedVariables false

theorem hasChain_is (t : Bool) (m : Mg) (v : Value) (w : World) (hh : 0 ≤ m.height ∧ m.height ≤ 300) (hc : m.chain.size ≤ maxLen) (hv : ∃ ao n cap, v = .slice ao n cap) (ht : longOk m = t) :
    Calls Try.prog 69 #[mgV m v] w fun e w' => e = .returned (.bool t) ∧ Below w.heap.size w w' := by
  rw [← ht]; exact hasChain_any m v w hh hc hv
theorem isSet_is (t : Bool) (n : Int) (w : World) (ht : decide (0 ≤ n ∧ n ≤ 127) = t) :
    Calls Try.prog 72 #[.int .i64 n] w fun e w' => e = .returned (.bool t) ∧ w' = w := by
  rw [← ht]; exact isSet_any n w
set_option maxHeartbeats 400000 in
theorem moveOf_any (m : Mg) (v : Value) (w : World) (hv : ∃ ao n cap, v = .slice ao n cap) :
    Calls Try.prog 49 #[mgV m v] w fun e w' => e = .returned (mvV ⟨m.frm, m.prep, m.chain, m.by'⟩) ∧ Below w.heap.size w w' := by
  obtain ⟨ao, n, cap, rfl⟩ := hv
  obtain ⟨k, f, h, r, c, p, b, l⟩ := m
  go_enter Try.func49, Try.ntmps49
  go_wp2
  refine bodyPost_ret (v := mvV ⟨f, p, c, b⟩) (by simp [results, Try.results49, go_sem]) rfl ⟨rfl, ?_⟩
  first
    | exact ((Below.refl _ w).alloc (Nat.le_refl _) _).alloc (by simp) _
    | exact (((Below.refl _ w).alloc (Nat.le_refl _) _).alloc (by simp) _).setCell (by simp) _

/-- the message's box, behind a call -/
abbrev mgCells (m : Mg) (v : Value) : Array Value := #[.int .i64 m.kind, .int .i64 m.frm, .int .i64 m.height, .int .i64 m.round, .string m.chain, .int .i64 m.prep, .int .i64 m.by', v]
theorem box8 {w wr : World} {a0 a1 a2 a3 a4 a5 a6 a7 : Value} {t : TypeId} (h : Below (w.alloc (.cells #[a0, a1, a2, a3, a4, a5, a6, a7] t)).heap.size (w.alloc (.cells #[a0, a1, a2, a3, a4, a5, a6, a7] t)) wr) :
    wr.cell? ⟨w.heap.size, 0, none⟩ = some a0 ∧ wr.cell? ⟨w.heap.size, 1, none⟩ = some a1 ∧ wr.cell? ⟨w.heap.size, 2, none⟩ = some a2 ∧ wr.cell? ⟨w.heap.size, 3, none⟩ = some a3 ∧ wr.cell? ⟨w.heap.size, 4, none⟩ = some a4 ∧ wr.cell? ⟨w.heap.size, 5, none⟩ = some a5 ∧ wr.cell? ⟨w.heap.size, 6, none⟩ = some a6 ∧ wr.cell? ⟨w.heap.size, 7, none⟩ = some a7 := by
  have h' : Below (w.heap.size + 1) _ wr := h.mono (by rw [World.size_alloc]; exact Nat.le_refl _)
  exact ⟨box_cell h' rfl, box_cell h' rfl, box_cell h' rfl, box_cell h' rfl, box_cell h' rfl, box_cell h' rfl, box_cell h' rfl, box_cell h' rfl⟩

set_option maxRecDepth 100000 in
set_option maxHeartbeats 2000000 in
theorem body1 (m : Mg) (v : Value) (w : World) (hv : MovesAt w v m.moves) (hh : 0 ≤ m.height ∧ m.height ≤ 300) (hr : 0 ≤ m.round ∧ m.round ≤ 300) (hc : m.chain.size ≤ maxLen) (hk : m.kind = 1) :
    Calls Try.prog 63 #[mgV m v] w fun e w' => e = .returned (.bool (bodyOk m)) ∧ Below w.heap.size w w' := by
  have HM : Hid (bodyOk m = (longOk m && (decide (m.prep = -1 ∧ m.by' = 0) && movesOk m))) := by show _ = _; unfold bodyOk; rw [if_pos hk]
  have HV := hide hv
  have hv1 := hide hv.slice
  obtain ⟨ao, n, cap, hvs⟩ := hv.slice
  clear hv
  obtain ⟨k, f, h, r, c, p, b, l⟩ := m
  dsimp only at hh hr hc hk HV hv1
  subst hk hvs
  cases hl : longOk ⟨1, f, h, r, c, p, b, l⟩ with
  | false =>
    have HL := hide hl
    clear hl
    go_enter Try.func63, Try.ntmps63
    go_wp2_with (go_at_call 69; refine (hasChain_is false ⟨1, f, h, r, c, p, b, l⟩ _ _ hh hc hv1.out HL.out).mono ?_; rintro e w' ⟨rfl, hb⟩)
    go_ret
    refine ⟨ret_bool ?_, ((Below.refl _ w).alloc (Nat.le_refl _) _).trans (hb.mono (by simp))⟩
    rw [HM.out, HL.out]; rfl
  | true =>
    have HL := hide hl
    clear hl
    by_cases hp : p = -1
    · by_cases hb0 : b = 0
      · have hpB : (p == -1) = true := by simp [hp]
        have hbB : (b == 0) = true := by simp [hb0]
        have HP := hide hp
        have HB := hide hb0
        clear hp hb0
        go_enter Try.func63, Try.ntmps63
        go_wp2_with (first
          | (go_at_call 69; refine (hasChain_is true ⟨1, f, h, r, c, p, b, l⟩ _ _ hh hc hv1.out HL.out).mono ?_; rintro e w1 ⟨rfl, hb1⟩; obtain ⟨z0, z1, z2, z3, z4, z5, z6, z7⟩ := box8 hb1)
          | (go_at_call 70; refine (movesMayBe_any ⟨1, f, h, r, c, p, b, l⟩ _ _ ((HV.out.below ((Below.refl _ w).alloc (Nat.le_refl _) _)).below hb1) hh hr).mono ?_; rintro e w2 ⟨rfl, hb2⟩))
        go_ret
        refine ⟨ret_bool ?_, (((Below.refl _ w).alloc (Nat.le_refl _) _).trans (hb1.mono (by simp))).trans (hb2.mono (Nat.le_trans (by simp) hb1.size))⟩
        rw [HM.out, HL.out, decide_eq_true ⟨HP.out, HB.out⟩]; rfl
      · have hpB : (p == -1) = true := by simp [hp]
        have hbB : (b == 0) = false := by simp [hb0]
        have HP := hide hp
        have HB := hide hb0
        clear hp hb0
        go_enter Try.func63, Try.ntmps63
        go_wp2_with (go_at_call 69; refine (hasChain_is true ⟨1, f, h, r, c, p, b, l⟩ _ _ hh hc hv1.out HL.out).mono ?_; rintro e w1 ⟨rfl, hb1⟩; obtain ⟨z0, z1, z2, z3, z4, z5, z6, z7⟩ := box8 hb1)
        go_ret
        refine ⟨ret_bool ?_, ((Below.refl _ w).alloc (Nat.le_refl _) _).trans (hb1.mono (by simp))⟩
        rw [HM.out, decide_eq_false (fun hx => HB.out hx.2)]; simp
    · have hpB : (p == -1) = false := by simp [hp]
      have HP := hide hp
      clear hp
      go_enter Try.func63, Try.ntmps63
      go_wp2_with (go_at_call 69; refine (hasChain_is true ⟨1, f, h, r, c, p, b, l⟩ _ _ hh hc hv1.out HL.out).mono ?_; rintro e w1 ⟨rfl, hb1⟩; obtain ⟨z0, z1, z2, z3, z4, z5, z6, z7⟩ := box8 hb1)
      go_ret
      refine ⟨ret_bool ?_, ((Below.refl _ w).alloc (Nat.le_refl _) _).trans (hb1.mono (by simp))⟩
      rw [HM.out, decide_eq_false (fun hx => HP.out hx.1)]; simp

/-- Prepare and Commit -/
theorem body23_eq {m : Mg} (hk : m.kind = 2 ∨ m.kind = 3) : bodyOk m = (longOk m && decide (m.prep = -1 ∧ m.by' = 0 ∧ m.moves.length = 0)) := by
  unfold bodyOk
  rw [if_neg (by omega), if_pos hk]
set_option maxRecDepth 100000 in
set_option maxHeartbeats 2000000 in
theorem body2 (m : Mg) (v : Value) (w : World) (hv : MovesAt w v m.moves) (hh : 0 ≤ m.height ∧ m.height ≤ 300) (hr : 0 ≤ m.round ∧ m.round ≤ 300) (hc : m.chain.size ≤ maxLen) (hk : m.kind = 2 ∨ m.kind = 3) :
    Calls Try.prog 63 #[mgV m v] w fun e w' => e = .returned (.bool (bodyOk m)) ∧ Below w.heap.size w w' := by
  have HM := hide (body23_eq hk)
  have hv1 := hide hv.slice
  have hlen := hv.2.2
  obtain ⟨ao, cap, hvs, _⟩ := hv.1
  clear hv
  obtain ⟨k, f, h, r, c, p, b, l⟩ := m
  dsimp only at hh hr hc hk hv1 hvs hlen
  subst hvs
  have k1 : (k == 1) = false := by rcases hk with rfl | rfl <;> rfl
  have hk2 : (k == 2) = true ∨ ((k == 2) = false ∧ (k == 3) = true) := by rcases hk with rfl | rfl <;> simp
  clear hk
  cases hl : longOk ⟨k, f, h, r, c, p, b, l⟩ with
  | false =>
    have HL := hide hl
    clear hl
    rcases hk2 with k2 | ⟨k2, k3⟩
    all_goals
      go_enter Try.func63, Try.ntmps63
      go_wp2_with (go_at_call 69; refine (hasChain_is false ⟨k, f, h, r, c, p, b, l⟩ _ _ hh hc hv1.out HL.out).mono ?_; rintro e w' ⟨rfl, hb⟩)
      go_ret
      refine ⟨ret_bool ?_, ((Below.refl _ w).alloc (Nat.le_refl _) _).trans (hb.mono (by simp))⟩
      rw [HM.out, HL.out]; rfl
  | true =>
    have HL := hide hl
    clear hl
    rcases hk2 with k2 | ⟨k2, k3⟩
    all_goals
      go_enter Try.func63, Try.ntmps63
      go_wp2_with (go_at_call 69; refine (hasChain_is true ⟨k, f, h, r, c, p, b, l⟩ _ _ hh hc hv1.out HL.out).mono ?_; rintro e w1 ⟨rfl, hb1⟩; obtain ⟨z0, z1, z2, z3, z4, z5, z6, z7⟩ := box8 hb1)
      all_goals go_ret
      all_goals refine ⟨ret_bool ?_, ((Below.refl _ w).alloc (Nat.le_refl _) _).trans (hb1.mono (by simp))⟩
      all_goals rw [HM.out, HL.out, Bool.eq_iff_iff]
      all_goals simp only [Bool.and_eq_true, decide_eq_true_eq, beq_iff_eq, beq_eq_false_iff_ne, ne_eq, Bool.false_eq_true, false_iff, true_and] at *
      all_goals omega

/-- Change -/
theorem body4_eq {m : Mg} (hk : m.kind = 4) : bodyOk m = (decide (m.moves.length = 0) && mvOk m.prep m.chain m.by' m.height m.round) := by
  unfold bodyOk
  rw [if_neg (by omega), if_neg (by omega), if_pos hk]
theorem body5_eq {m : Mg} (hk : m.kind = 5) : bodyOk m = (longOk m && decide (m.prep = -1 ∧ 0 ≤ m.by' ∧ m.by' ≤ 127 ∧ m.moves.length = 0)) := by
  unfold bodyOk
  rw [if_neg (by omega), if_neg (by omega), if_neg (by omega), if_pos hk]
theorem body6_eq {m : Mg} (hk : m.kind = 6) : bodyOk m = decide (m.chain.size = 0 ∧ m.prep = -1 ∧ m.by' = 0 ∧ m.moves.length = 0) := by
  unfold bodyOk
  rw [if_neg (by omega), if_neg (by omega), if_neg (by omega), if_neg (by omega), if_pos hk]
theorem body0_eq {m : Mg} (hk : ¬ (1 ≤ m.kind ∧ m.kind ≤ 6)) : bodyOk m = false := by
  unfold bodyOk
  rw [if_neg (by omega), if_neg (by omega), if_neg (by omega), if_neg (by omega), if_neg (by omega)]
set_option maxRecDepth 100000 in
set_option maxHeartbeats 2000000 in
theorem body5 (m : Mg) (v : Value) (w : World) (hv : MovesAt w v m.moves) (hh : 0 ≤ m.height ∧ m.height ≤ 300) (hr : 0 ≤ m.round ∧ m.round ≤ 300) (hc : m.chain.size ≤ maxLen) (hk : m.kind = 5) :
    Calls Try.prog 63 #[mgV m v] w fun e w' => e = .returned (.bool (bodyOk m)) ∧ Below w.heap.size w w' := by
  have HM := hide (body5_eq hk)
  have hv1 := hide hv.slice
  have hlen := hv.2.2
  obtain ⟨ao, cap, hvs, _⟩ := hv.1
  clear hv
  obtain ⟨k, f, h, r, c, p, b, l⟩ := m
  dsimp only at hh hr hc hk hv1 hvs hlen
  subst hvs hk
  cases hl : longOk ⟨5, f, h, r, c, p, b, l⟩ with
  | false =>
    have HL := hide hl
    clear hl
    go_enter Try.func63, Try.ntmps63
    go_wp2_with (go_at_call 69; refine (hasChain_is false ⟨5, f, h, r, c, p, b, l⟩ _ _ hh hc hv1.out HL.out).mono ?_; rintro e w' ⟨rfl, hb⟩)
    go_ret
    refine ⟨ret_bool ?_, ((Below.refl _ w).alloc (Nat.le_refl _) _).trans (hb.mono (by simp))⟩
    rw [HM.out, HL.out]; rfl
  | true =>
    have HL := hide hl
    clear hl
    go_enter Try.func63, Try.ntmps63
    go_wp2_with (first
      | (go_at_call 69; refine (hasChain_is true ⟨5, f, h, r, c, p, b, l⟩ _ _ hh hc hv1.out HL.out).mono ?_; rintro e w1 ⟨rfl, hb1⟩; obtain ⟨z0, z1, z2, z3, z4, z5, z6, z7⟩ := box8 hb1)
      | (go_at_call 72; refine (isSet_any _ _).mono ?_; rintro e w' ⟨rfl, rfl⟩))
    all_goals go_ret
    all_goals refine ⟨ret_bool ?_, ((Below.refl _ w).alloc (Nat.le_refl _) _).trans (hb1.mono (by simp))⟩
    all_goals rw [HM.out, HL.out, Bool.eq_iff_iff]
    all_goals simp only [Bool.and_eq_true, decide_eq_true_eq, beq_iff_eq, Bool.false_eq_true, false_iff, true_and] at *
    all_goals omega
set_option maxRecDepth 100000 in
set_option maxHeartbeats 2000000 in
theorem body6 (m : Mg) (v : Value) (w : World) (hv : MovesAt w v m.moves) (hh : 0 ≤ m.height ∧ m.height ≤ 300) (hr : 0 ≤ m.round ∧ m.round ≤ 300) (hc : m.chain.size ≤ maxLen) (hk : m.kind = 6) :
    Calls Try.prog 63 #[mgV m v] w fun e w' => e = .returned (.bool (bodyOk m)) ∧ Below w.heap.size w w' := by
  have HM := hide (body6_eq hk)
  have hlen := hv.2.2
  obtain ⟨ao, cap, hvs, _⟩ := hv.1
  clear hv
  obtain ⟨k, f, h, r, c, p, b, l⟩ := m
  dsimp only at hh hr hc hk hvs hlen
  subst hvs hk
  go_enter Try.func63, Try.ntmps63
  go_wp2
  all_goals go_ret
  all_goals refine ⟨ret_bool ?_, ((Below.refl _ w).alloc (Nat.le_refl _) _)⟩
  all_goals rw [body6_eq rfl, Bool.eq_iff_iff]
  all_goals simp only [bytes_nil, decide_eq_true_eq, beq_iff_eq, Bool.false_eq_true, false_iff, true_and] at *
  all_goals omega
set_option maxRecDepth 100000 in
set_option maxHeartbeats 2000000 in
theorem body0 (m : Mg) (v : Value) (w : World) (hv : ∃ ao n cap, v = .slice ao n cap) (hk : ¬ (1 ≤ m.kind ∧ m.kind ≤ 6)) :
    Calls Try.prog 63 #[mgV m v] w fun e w' => e = .returned (.bool (bodyOk m)) ∧ Below w.heap.size w w' := by
  have HM := hide (body0_eq hk)
  obtain ⟨ao, n, cap, rfl⟩ := hv
  obtain ⟨k, f, h, r, c, p, b, l⟩ := m
  dsimp only at hk
  have k1 : (k == 1) = false := by simp; omega
  have k2 : (k == 2) = false := by simp; omega
  have k3 : (k == 3) = false := by simp; omega
  have k4 : (k == 4) = false := by simp; omega
  have k5 : (k == 5) = false := by simp; omega
  have k6 : (k == 6) = false := by simp; omega
  clear hk
  go_enter Try.func63, Try.ntmps63
  go_wp2
  go_ret
  exact ⟨ret_bool HM.out.symm, ((Below.refl _ w).alloc (Nat.le_refl _) _)⟩
set_option maxRecDepth 100000 in
set_option maxHeartbeats 2000000 in
theorem body4 (m : Mg) (v : Value) (w : World) (hv : MovesAt w v m.moves) (hh : 0 ≤ m.height ∧ m.height ≤ 300) (hr : 0 ≤ m.round ∧ m.round ≤ 300) (hc : m.chain.size ≤ maxLen) (hk : m.kind = 4) :
    Calls Try.prog 63 #[mgV m v] w fun e w' => e = .returned (.bool (bodyOk m)) ∧ Below w.heap.size w w' := by
  have HM := hide (body4_eq hk)
  have hv1 := hide hv.slice
  have hlen := hv.2.2
  obtain ⟨ao, cap, hvs, _⟩ := hv.1
  clear hv
  obtain ⟨k, f, h, r, c, p, b, l⟩ := m
  dsimp only at hh hr hc hk hvs hlen hv1
  subst hvs hk
  by_cases h0 : l.length = 0
  · have h0B : ((l.length : Int) == 0) = true := by simp [h0]
    have H0 := hide h0
    clear h0
    go_enter Try.func63, Try.ntmps63
    obtain ⟨wb, hwb⟩ : ∃ wb, wb = w.alloc (.cells #[.int .i64 4, .int .i64 f, .int .i64 h, .int .i64 r, .string c, .int .i64 p, .int .i64 b, .slice ao l.length cap] 39) := ⟨_, rfl⟩
    have hB0 : Below w.heap.size w wb := by rw [hwb]; exact (Below.refl _ w).alloc (Nat.le_refl _) _
    have hsz : w.heap.size < wb.heap.size := by rw [hwb]; simp
    obtain ⟨z0, z1, z2, z3, z4, z5, z6, z7⟩ := box8 (w := w) (wr := wb) (by rw [← hwb]; exact Below.refl _ _)
    go_wp2
    rw [← hwb]
    clear hwb
    go_region_held3 (fun w' => w'.cell? ⟨w.heap.size, 0, none⟩ = some (.int .i64 4) ∧ w'.cell? ⟨w.heap.size, 1, none⟩ = some (.int .i64 f) ∧ w'.cell? ⟨w.heap.size, 2, none⟩ = some (.int .i64 h) ∧ w'.cell? ⟨w.heap.size, 3, none⟩ = some (.int .i64 r) ∧ w'.cell? ⟨w.heap.size, 4, none⟩ = some (.string c) ∧ w'.cell? ⟨w.heap.size, 5, none⟩ = some (.int .i64 p) ∧ w'.cell? ⟨w.heap.size, 6, none⟩ = some (.int .i64 b) ∧ w'.cell? ⟨w.heap.size, 7, none⟩ = some (.slice ao l.length cap)) (go_keep)
      (first
        | (go_at_call 49; refine (moveOf_any ⟨4, f, h, r, c, p, b, l⟩ _ _ hv1.out).mono ?_; rintro e w1 ⟨rfl, hb1⟩; have d0 := (hb1.cell (p := ⟨w.heap.size, 0, none⟩) hsz).trans z0; have d1 := (hb1.cell (p := ⟨w.heap.size, 1, none⟩) hsz).trans z1; have d2 := (hb1.cell (p := ⟨w.heap.size, 2, none⟩) hsz).trans z2; have d3 := (hb1.cell (p := ⟨w.heap.size, 3, none⟩) hsz).trans z3; have d4 := (hb1.cell (p := ⟨w.heap.size, 4, none⟩) hsz).trans z4; have d5 := (hb1.cell (p := ⟨w.heap.size, 5, none⟩) hsz).trans z5; have d6 := (hb1.cell (p := ⟨w.heap.size, 6, none⟩) hsz).trans z6; have d7 := (hb1.cell (p := ⟨w.heap.size, 7, none⟩) hsz).trans z7)
        | (go_at_call 71; refine (moveMayBe_any ⟨f, p, c, b⟩ _ _ _ hh hr hc).mono ?_; rintro e w2 ⟨rfl, hb2⟩; have hsz2 := Nat.lt_of_lt_of_le hsz hb1.size; have e0 := (hb2.cell (p := ⟨w.heap.size, 0, none⟩) hsz2).trans d0; have e1 := (hb2.cell (p := ⟨w.heap.size, 1, none⟩) hsz2).trans d1; have e2 := (hb2.cell (p := ⟨w.heap.size, 2, none⟩) hsz2).trans d2; have e3 := (hb2.cell (p := ⟨w.heap.size, 3, none⟩) hsz2).trans d3; have e4 := (hb2.cell (p := ⟨w.heap.size, 4, none⟩) hsz2).trans d4; have e5 := (hb2.cell (p := ⟨w.heap.size, 5, none⟩) hsz2).trans d5; have e6 := (hb2.cell (p := ⟨w.heap.size, 6, none⟩) hsz2).trans d6; have e7 := (hb2.cell (p := ⟨w.heap.size, 7, none⟩) hsz2).trans d7))
    go_wp2
    go_ret
    refine ⟨ret_bool ?_, (hB0.trans (Below.refl _ _).drew).trans ((hb1.mono hB0.size).trans (hb2.mono (Nat.le_trans hB0.size hb1.size)))⟩
    rw [HM.out, decide_eq_true H0.out]; rfl
  · have h0B : ((l.length : Int) == 0) = false := beq_eq_false_iff_ne.2 (by omega)
    go_enter Try.func63, Try.ntmps63
    go_wp2
    go_quiet (fail)
    go_wp2
    go_ret
    refine ⟨ret_bool ?_, below_drewN ((Below.refl _ w).alloc (Nat.le_refl _) _) _⟩
    rw [HM.out, decide_eq_false h0]; rfl

theorem bodyMayBe_any (m : Mg) (v : Value) (w : World) (hv : MovesAt w v m.moves) (hh : 0 ≤ m.height ∧ m.height ≤ 300) (hr : 0 ≤ m.round ∧ m.round ≤ 300) (hc : m.chain.size ≤ maxLen) :
    Calls Try.prog 63 #[mgV m v] w fun e w' => e = .returned (.bool (bodyOk m)) ∧ Below w.heap.size w w' := by
  by_cases h1 : m.kind = 1
  · exact body1 m v w hv hh hr hc h1
  by_cases h2 : m.kind = 2 ∨ m.kind = 3
  · exact body2 m v w hv hh hr hc h2
  by_cases h4 : m.kind = 4
  · exact body4 m v w hv hh hr hc h4
  by_cases h5 : m.kind = 5
  · exact body5 m v w hv hh hr hc h5
  by_cases h6 : m.kind = 6
  · exact body6 m v w hv hh hr hc h6
  exact body0 m v w hv.slice (by omega)
theorem headMayBe_is (t : Bool) (m : Mg) (v : Value) (w : World) (hv : ∃ ao n cap, v = .slice ao n cap) (ht : headOk m = t) :
    Calls Try.prog 62 #[mgV m v] w fun e w' => e = .returned (.bool t) ∧ Below w.heap.size w w' := by
  rw [← ht]; exact headMayBe_any m v w hv
theorem headOk_bounds {m : Mg} (h : headOk m = true) : (0 ≤ m.height ∧ m.height ≤ 300) ∧ (0 ≤ m.round ∧ m.round ≤ 300) := by
  unfold headOk at h
  rw [decide_eq_true_eq] at h
  split at h <;> omega
set_option maxRecDepth 100000 in
set_option maxHeartbeats 2000000 in
theorem mayBe_any (m : Mg) (v : Value) (w : World) (hv : MovesAt w v m.moves) (hc : m.chain.size ≤ maxLen) :
    Calls Try.prog 47 #[mgV m v] w fun e w' => e = .returned (.bool (mayB m)) ∧ Below w.heap.size w w' := by
  have HM : Hid (mayB m = (headOk m && bodyOk m)) := rfl
  have HV := hide hv
  have hv1 := hide hv.slice
  obtain ⟨ao, n, cap, hvs⟩ := hv.slice
  clear hv
  obtain ⟨k, f, h, r, c, p, b, l⟩ := m
  dsimp only at hc HV hv1
  subst hvs
  cases hl : headOk ⟨k, f, h, r, c, p, b, l⟩ with
  | false =>
    have HL := hide hl
    clear hl
    go_enter Try.func47, Try.ntmps47
    go_wp2_with (go_at_call 62; refine (headMayBe_is false ⟨k, f, h, r, c, p, b, l⟩ _ _ hv1.out HL.out).mono ?_; rintro e w' ⟨rfl, hb⟩)
    go_ret
    refine ⟨ret_bool ?_, ((Below.refl _ w).alloc (Nat.le_refl _) _).trans (hb.mono (by simp))⟩
    rw [HM.out, HL.out]; rfl
  | true =>
    obtain ⟨hh, hr⟩ := headOk_bounds hl
    dsimp only at hh hr
    have HL := hide hl
    clear hl
    go_enter Try.func47, Try.ntmps47
    go_wp2_with (first
      | (go_at_call 62; refine (headMayBe_is true ⟨k, f, h, r, c, p, b, l⟩ _ _ hv1.out HL.out).mono ?_; rintro e w1 ⟨rfl, hb1⟩; obtain ⟨z0, z1, z2, z3, z4, z5, z6, z7⟩ := box8 hb1)
      | (go_at_call 63; refine (bodyMayBe_any ⟨k, f, h, r, c, p, b, l⟩ _ _ ((HV.out.below ((Below.refl _ w).alloc (Nat.le_refl _) _)).below hb1) hh hr hc).mono ?_; rintro e w2 ⟨rfl, hb2⟩))
    go_ret
    refine ⟨ret_bool ?_, (((Below.refl _ w).alloc (Nat.le_refl _) _).trans (hb1.mono (by simp))).trans (hb2.mono (Nat.le_trans (by simp) hb1.size))⟩
    rw [HM.out, HL.out]; rfl
end Go.Proofs.Ytlkhmldceekdaaa
