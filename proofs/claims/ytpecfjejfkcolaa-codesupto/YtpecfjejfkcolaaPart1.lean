import Derived.KernelRfl
import Derived.Test.YtpecfjejfkcolaaProg
import Derived.WalkKit
import Derived.WalkSpells
import Derived.Maps.AppendAt
import Derived.Deep.QuietTactic
import Derived.BigQuiet
import Derived.WalkSmall
/- Sets of seven nodes as numbers below 128: plain facts, without the program. -/
namespace Go.Proofs.Ytpecfjejfkcolaa
set_option linter.unusedVariables false

/-- the nodes of a set, by rising numbers -/
def listed (s : Nat) : List Nat := (List.range 7).filter (fun i => s.testBit i)
def sizeS (s : Nat) : Nat := (listed s).length
def hasS (s : Nat) (n : Int) : Bool := decide (0 ≤ n) && decide (n < 7) && s.testBit n.toNat
def withS (s n : Nat) : Nat := s ||| (1 <<< n)
def withoutS (s n : Nat) : Nat := s &&& (127 ^^^ (1 <<< n))
def firstS (n : Nat) : Nat := (1 <<< n) - 1

theorem fin_all {p : Nat → Prop} {n : Nat} (h : ∀ i : Fin n, p i.1) {k : Nat} (hk : k < n) : p k := h ⟨k, hk⟩
theorem fin_all2 {p : Nat → Nat → Prop} {n m : Nat} (h : ∀ i : Fin n, ∀ j : Fin m, p i.1 j.1) {k l : Nat} (hk : k < n) (hl : l < m) : p k l := h ⟨k, hk⟩ ⟨l, hl⟩

theorem withS_lt {s n : Nat} (hs : s < 128) (hn : n < 7) : withS s n < 128 :=
  fin_all2 (p := fun s n => withS s n < 128) (by decide +kernel) hs hn
theorem withoutS_lt {s n : Nat} (hs : s < 128) (hn : n < 7) : withoutS s n < 128 :=
  fin_all2 (p := fun s n => withoutS s n < 128) (by decide +kernel) hs hn
theorem sizeS_le {s : Nat} : sizeS s ≤ 7 := by
  have h := List.length_filter_le (fun i => s.testBit i) (List.range 7)
  simpa [sizeS, listed] using h
theorem sizeS_with {s n : Nat} (hs : s < 128) (hn : n < 7) : sizeS (withS s n) = sizeS s + if s.testBit n then 0 else 1 :=
  fin_all2 (p := fun s n => sizeS (withS s n) = sizeS s + if s.testBit n then 0 else 1) (by decide +kernel) hs hn
theorem sizeS_without {s n : Nat} (hs : s < 128) (hn : n < 7) : sizeS (withoutS s n) + (if s.testBit n then 1 else 0) = sizeS s :=
  fin_all2 (p := fun s n => sizeS (withoutS s n) + (if s.testBit n then 1 else 0) = sizeS s) (by decide +kernel) hs hn
theorem has_with {s n m : Nat} (hs : s < 128) (hn : n < 7) (hm : m < 7) : (withS s n).testBit m = (decide (m = n) || s.testBit m) :=
  fin_all2 (p := fun s n => ∀ m : Fin 7, (withS s n).testBit m = (decide (m.1 = n) || s.testBit m)) (by decide +kernel) hs hn ⟨m, hm⟩
theorem has_without {s n m : Nat} (hs : s < 128) (hn : n < 7) (hm : m < 7) : (withoutS s n).testBit m = (!decide (m = n) && s.testBit m) :=
  fin_all2 (p := fun s n => ∀ m : Fin 7, (withoutS s n).testBit m = (!decide (m.1 = n) && s.testBit m)) (by decide +kernel) hs hn ⟨m, hm⟩
theorem mem_listed {s n : Nat} : n ∈ listed s ↔ n < 7 ∧ s.testBit n = true := by simp [listed]
theorem listed_first {n : Nat} (hn : n < 8) : listed (firstS n) = List.range n :=
  fin_all (p := fun n => listed (firstS n) = List.range n) (by decide +kernel) hn
theorem firstS_lt {n : Nat} (hn : n < 8) : firstS n < 128 :=
  fin_all (p := fun n => firstS n < 128) (by decide +kernel) hn
end Go.Proofs.Ytpecfjejfkcolaa

/- The small functions of package set and chains: what each call does. -/
namespace Go.Proofs.Ytpecfjejfkcolaa
open Go.RowKit
set_option linter.unusedVariables false

theorem hide {p : Prop} (h : p) : Hid p := h
theorem ret_int {k : IntKind} {a b : Int} (h : a = b) : Ending.returned (.int k a) = .returned (.int k b) := by rw [h]
theorem ret_bool {a b : Bool} (h : a = b) : Ending.returned (.bool a) = .returned (.bool b) := by rw [h]

set_option maxHeartbeats 400000 in
theorem isNode_any (n : Int) (w : World) :
    Calls Try.prog 55 #[.int .i64 n] w fun e w' => e = .returned (.bool (decide (0 ≤ n) && decide (n < 7))) ∧ w' = w := by
  go_enter Try.func55, Try.ntmps55
  go_wp2
  all_goals go_ret
  · exact ⟨by simp [*], rfl⟩
  · exact ⟨ret_bool (by rw [decide_eq_false (by omega)]; rfl), rfl⟩

set_option maxHeartbeats 400000 in
theorem digit_any (c : Int) (w : World) (h0 : 0 ≤ c) (h1 : c < 256) :
    Calls Try.prog 54 #[.int .u8 c] w fun e w' => e = .returned (.int .i64 (c - 48)) ∧ w' = w := by
  go_enter Try.func54, Try.ntmps54
  go_wp2
  go_ret
  exact ⟨rfl, rfl⟩


set_option maxHeartbeats 400000 in
theorem size_fin (s : Fin 128) (w : World) :
    Calls Try.prog 23 #[.int .i64 (s.1 : Int)] w fun e w' => e = .returned (.int .i64 (sizeS s.1)) ∧ w' = w := by
  go_enter Try.func23, Try.ntmps23
  go_wp2
  go_ret
  refine ⟨ret_int ?_, rfl⟩
  clear w
  revert s
  decide +kernel
theorem size_any (s : Nat) (h : s < 128) (w : World) :
    Calls Try.prog 23 #[.int .i64 (s : Int)] w fun e w' => e = .returned (.int .i64 (sizeS s)) ∧ w' = w :=
  size_fin ⟨s, h⟩ w

set_option maxHeartbeats 400000 in
theorem first_fin (s : Fin 8) (w : World) :
    Calls Try.prog 38 #[.int .i64 (s.1 : Int)] w fun e w' => e = .returned (.int .i64 (firstS s.1)) ∧ w' = w := by
  go_enter Try.func38, Try.ntmps38
  go_wp2
  go_ret
  refine ⟨ret_int ?_, rfl⟩
  clear w
  revert s
  decide +kernel
theorem first_any (s : Nat) (h : s < 8) (w : World) :
    Calls Try.prog 38 #[.int .i64 (s : Int)] w fun e w' => e = .returned (.int .i64 (firstS s)) ∧ w' = w :=
  first_fin ⟨s, h⟩ w

set_option maxHeartbeats 400000 in
theorem with_fin (s : Fin 128) (n : Fin 7) (w : World) :
    Calls Try.prog 57 #[.int .i64 (s.1 : Int), .int .i64 (n.1 : Int)] w fun e w' => e = .returned (.int .i64 (withS s.1 n.1)) ∧ w' = w := by
  go_enter Try.func57, Try.ntmps57
  go_wp2
  go_ret
  refine ⟨ret_int ?_, rfl⟩
  clear w
  revert s n
  decide +kernel
theorem with_any (s n : Nat) (hs : s < 128) (hn : n < 7) (w : World) :
    Calls Try.prog 57 #[.int .i64 (s : Int), .int .i64 (n : Int)] w fun e w' => e = .returned (.int .i64 (withS s n)) ∧ w' = w :=
  with_fin ⟨s, hs⟩ ⟨n, hn⟩ w
set_option maxHeartbeats 400000 in
theorem without_fin (s : Fin 128) (n : Fin 7) (w : World) :
    Calls Try.prog 58 #[.int .i64 (s.1 : Int), .int .i64 (n.1 : Int)] w fun e w' => e = .returned (.int .i64 (withoutS s.1 n.1)) ∧ w' = w := by
  go_enter Try.func58, Try.ntmps58
  go_wp2
  go_ret
  refine ⟨ret_int ?_, rfl⟩
  clear w
  revert s n
  decide +kernel
theorem without_any (s n : Nat) (hs : s < 128) (hn : n < 7) (w : World) :
    Calls Try.prog 58 #[.int .i64 (s : Int), .int .i64 (n : Int)] w fun e w' => e = .returned (.int .i64 (withoutS s n)) ∧ w' = w :=
  without_fin ⟨s, hs⟩ ⟨n, hn⟩ w
set_option maxHeartbeats 400000 in
theorem has_fin (s : Fin 128) (n : Int) (w : World) :
    Calls Try.prog 41 #[.int .i64 (s.1 : Int), .int .i64 n] w fun e w' => e = .returned (.bool (hasS s.1 n)) ∧ w' = w := by
  go_enter Try.func41, Try.ntmps41
  go_wp2_with (go_at_call 55; refine (isNode_any _ _).mono ?_; rintro e w' ⟨rfl, rfl⟩)
  all_goals go_ret
  · rename_i h
    refine ⟨ret_bool ?_, rfl⟩
    obtain ⟨h0, h1⟩ := h
    obtain ⟨n, rfl⟩ := Int.eq_ofNat_of_zero_le h0
    have hn : n < 7 := by omega
    obtain ⟨m, rfl⟩ : ∃ m : Fin 7, n = m.1 := ⟨⟨n, hn⟩, rfl⟩
    clear w' h0 h1 hn
    revert s m
    decide +kernel
  · rename_i h
    refine ⟨ret_bool ?_, rfl⟩
    unfold hasS
    by_cases h0 : 0 ≤ n
    · rw [decide_eq_false (show ¬ n < 7 by omega)]; simp
    · rw [decide_eq_false h0]; simp
theorem has_any (s : Nat) (hs : s < 128) (n : Int) (w : World) :
    Calls Try.prog 41 #[.int .i64 (s : Int), .int .i64 n] w fun e w' => e = .returned (.bool (hasS s n)) ∧ w' = w :=
  has_fin ⟨s, hs⟩ n w
set_option maxHeartbeats 400000 in
theorem blocks_any (s : ByteArray) (w : World) (hs : s.size ≤ maxLen) :
    Calls Try.prog 37 #[.string s] w fun e w' => e = .returned (.int .i64 ((s.size / 3 : Nat) : Int)) ∧ w' = w := by
  unfold maxLen at hs
  go_enter Try.func37, Try.ntmps37
  go_wp2
  go_ret
  exact ⟨by first | rfl | simp, rfl⟩
set_option maxHeartbeats 400000 in
theorem nodes_any (s : Int) (w : World) :
    Calls Try.prog 24 #[.int .i64 s] w fun e w' => e = .returned (.func (.func 44) #[] #[.pointer (some ⟨w.heap.size, 0, none⟩)]) ∧ w' = w.alloc (.cells #[.int .i64 s] 66) := by
  go_enter Try.func24, Try.ntmps24
  go_wp2
  go_ret
  exact ⟨rfl, rfl⟩
set_option maxHeartbeats 400000 in
theorem entries_any (s : ByteArray) (w : World) :
    Calls Try.prog 39 #[.string s] w fun e w' => e = .returned (.func (.func 53) #[] #[.pointer (some ⟨w.heap.size, 0, none⟩)]) ∧ w' = w.alloc (.cells #[.string s] 9) := by
  go_enter Try.func39, Try.ntmps39
  go_wp2
  go_ret
  exact ⟨rfl, rfl⟩
end Go.Proofs.Ytpecfjejfkcolaa

/- Chains by their bytes: the plain mathematics of members and leaders, without the program. -/
namespace Go.Proofs.Ytpecfjejfkcolaa
set_option linter.unusedVariables false

/-- the byte at a place, as a number; 0 beyond -/
def byt (s : ByteArray) (i : Nat) : Nat := (s.data.toList.getD i 0).toNat
theorem byt_eq (s : ByteArray) (i : Nat) (h : i < s.size) : s[i].toNat = byt s i := by
  have h' : i < s.data.size := h
  simp only [byt, List.getD_eq_getElem?_getD, Array.getElem?_toList]
  rw [Array.getElem?_eq_getElem h']
  rfl
theorem byt_lt (s : ByteArray) (i : Nat) : byt s i < 256 := by
  unfold byt
  exact UInt8.toNat_lt _

/-- is it a block (whoever made it)? -/
def blkOk (x y z : Nat) : Bool :=
  decide (48 ≤ x ∧ x ≤ 54 ∧ ((y = 46 ∧ z = 48) ∨ ((y = 43 ∨ y = 45) ∧ 48 ≤ z ∧ z ≤ 54)))
theorem blkOk_iff {x y z : Nat} : blkOk x y z = true ↔ (48 ≤ x ∧ x ≤ 54 ∧ ((y = 46 ∧ z = 48) ∨ ((y = 43 ∨ y = 45) ∧ 48 ≤ z ∧ z ≤ 54))) := by
  simp only [blkOk, decide_eq_true_eq]

/-- a block, read: its maker, its sign, whom it is about -/
abbrev Blk := Nat × Nat × Nat

/-- those who vote so about a node: the document's list, the program's set -/
def votesL : List Blk → Nat → Nat → List Nat → List Nat
  | [], _, _, acc => acc
  | b :: r, sign, node, acc => votesL r sign node (if b.2.1 = sign ∧ b.2.2 = node ∧ b.1 ∉ acc then acc ++ [b.1] else acc)
def votesS : List Blk → Nat → Nat → Nat → Nat
  | [], _, _, acc => acc
  | b :: r, sign, node, acc => votesS r sign node (if b.2.1 = sign ∧ b.2.2 = node then withS acc b.1 else acc)

theorem votes_same (bl : List Blk) (sign node : Nat) (hb : ∀ b ∈ bl, b.1 < 7) : ∀ (L : List Nat) (S : Nat), S < 128 → (∀ x, x < 7 → (x ∈ L ↔ S.testBit x = true)) → L.length = sizeS S →
    (votesL bl sign node L).length = sizeS (votesS bl sign node S) ∧ votesS bl sign node S < 128 := by
  induction bl with
  | nil => intro L S hS _ hl; exact ⟨hl, hS⟩
  | cons b r ih =>
    intro L S hS hm hl
    have hb7 := hb b (by simp)
    have ih' := ih (fun x hx => hb x (by simp [hx]))
    simp only [votesL, votesS]
    by_cases h1 : b.2.1 = sign ∧ b.2.2 = node
    · by_cases h2 : b.1 ∈ L
      · rw [if_neg (by intro h; exact h.2.2 h2), if_pos h1]
        have ht := (hm b.1 hb7).1 h2
        refine ih' L _ (withS_lt hS hb7) (fun x hx => ?_) (by rw [sizeS_with hS hb7, ht]; simpa using hl)
        rw [has_with hS hb7 hx, hm x hx]
        by_cases e : x = b.1
        · subst e; simp [ht]
        · simp [e]
      · rw [if_pos ⟨h1.1, h1.2, h2⟩, if_pos h1]
        have ht : S.testBit b.1 = false := by
          cases h : S.testBit b.1
          · rfl
          · exact absurd ((hm b.1 hb7).2 h) h2
        refine ih' _ _ (withS_lt hS hb7) (fun x hx => ?_) (by rw [sizeS_with hS hb7, ht]; simp [hl])
        rw [has_with hS hb7 hx, List.mem_append, hm x hx]
        by_cases e : x = b.1
        · subst e; simp
        · simp [e]
    · rw [if_neg (by intro h; exact h1 ⟨h.1, h.2.1⟩), if_neg h1]
      exact ih' L S hS hm hl

/-- how many different makers vote so -/
def votes (bl : List Blk) (sign node : Nat) : Nat := (votesL bl sign node []).length
theorem votes_eq (bl : List Blk) (sign node : Nat) (hb : ∀ b ∈ bl, b.1 < 7) : sizeS (votesS bl sign node 0) = votes bl sign node :=
  (votes_same bl sign node hb [] 0 (by omega) (by simp) (by decide)).1.symm
theorem votesS_lt (bl : List Blk) (sign node : Nat) (hb : ∀ b ∈ bl, b.1 < 7) : votesS bl sign node 0 < 128 :=
  (votes_same bl sign node hb [] 0 (by omega) (by simp) (by decide)).2

/-- the members behind an epoch's blocks, node by node -/
def stepS (bl : List Blk) (s i : Nat) : Nat :=
  if 2 ≤ votes bl 43 i then withS s i
  else if 2 ≤ votes bl 45 i ∧ s.testBit i = true ∧ 4 < sizeS s then withoutS s i
  else s
def countTo (bl : List Blk) (s : Nat) : Nat → Nat
  | 0 => s
  | k + 1 => stepS bl (countTo bl s k) k
theorem stepS_lt {bl : List Blk} {s i : Nat} (hs : s < 128) (hi : i < 7) : stepS bl s i < 128 := by
  unfold stepS
  split
  · exact withS_lt hs hi
  · split
    · exact withoutS_lt hs hi
    · exact hs
theorem countTo_lt {bl : List Blk} {s : Nat} (hs : s < 128) : ∀ k, k ≤ 7 → countTo bl s k < 128
  | 0, _ => hs
  | k + 1, h => stepS_lt (countTo_lt hs k (by omega)) (by omega)
def countS (bl : List Blk) (s : Nat) : Nat := countTo bl s 7
theorem countS_lt {bl : List Blk} {s : Nat} (hs : s < 128) : countS bl s < 128 := countTo_lt hs 7 (by omega)

/-- the block at a place of a chain (from 0 on) -/
def blkAt (c : ByteArray) (k : Nat) : Blk := (byt c (3 * k) - 48, byt c (3 * k + 1), byt c (3 * k + 2) - 48)
def okAt (c : ByteArray) (k : Nat) : Bool := blkOk (byt c (3 * k)) (byt c (3 * k + 1)) (byt c (3 * k + 2))
/-- the members behind the first k blocks; none: the chain may not be -/
def memTo (c : ByteArray) (s0 : Nat) : Nat → Option Nat
  | 0 => some s0
  | k + 1 => match memTo c s0 k with
    | none => none
    | some s => if okAt c k = true ∧ s.testBit (byt c (3 * k) - 48) = true then
        some (if (k + 1) % 3 = 0 then countS [blkAt c (k - 2), blkAt c (k - 1), blkAt c k] s else s) else none
theorem memTo_lt {c : ByteArray} {s0 : Nat} (h0 : s0 < 128) : ∀ k s, memTo c s0 k = some s → s < 128
  | 0, s, h => by simp [memTo] at h; omega
  | k + 1, s, h => by
    rw [memTo] at h
    cases hm : memTo c s0 k with
    | none => rw [hm] at h; cases h
    | some s' =>
      rw [hm] at h
      have hl := memTo_lt h0 k s' hm
      simp only at h
      split at h
      · simp only [Option.some.injEq] at h
        rw [← h]
        split
        · exact countS_lt hl
        · exact hl
      · cases h
theorem memTo_none {c : ByteArray} {s0 k : Nat} (h : memTo c s0 k = none) : ∀ d, memTo c s0 (k + d) = none
  | 0 => h
  | d + 1 => by rw [← Nat.add_assoc, memTo, memTo_none h d]

/-- the members of the block behind a chain -/
def members (n : Nat) (c : ByteArray) : Option Nat :=
  if c.size % 3 = 0 ∧ c.size ≤ 18 then memTo c (firstS n) (c.size / 3) else none
theorem members_lt {n : Nat} {c : ByteArray} {s : Nat} (hn : n < 8) (h : members n c = some s) : s < 128 := by
  unfold members at h
  split at h
  · exact memTo_lt (firstS_lt hn) _ _ h
  · cases h
end Go.Proofs.Ytpecfjejfkcolaa

/- Messages: the plain mathematics of what may be, without the program. -/
namespace Go.Proofs.Ytpecfjejfkcolaa
set_option linter.unusedVariables false

/-- a Move, a message -/
structure Mv where
  node : Int
  prep : Int
  chain : ByteArray
  by' : Int
structure Mg where
  kind : Int
  frm : Int
  height : Int
  round : Int
  chain : ByteArray
  prep : Int
  by' : Int
  moves : List Mv

/-- may this stand in a Change, or in a Move? -/
def mvOk (p : Int) (c : ByteArray) (b h r : Int) : Bool :=
  if p = -1 then decide (c.size = 0 ∧ b = 0) else decide (0 ≤ p ∧ p < r ∧ (c.size : Int) = 3 * h ∧ 0 ≤ b ∧ b ≤ 127)
def headOk (m : Mg) : Bool :=
  decide (0 ≤ m.frm ∧ m.frm ≤ 6 ∧ 1 ≤ m.height ∧ m.height ≤ (if m.kind = 6 then 6 else 7) ∧ 0 ≤ m.round ∧ m.round ≤ (if m.kind = 6 then 0 else 9))
/-- rising nodes, each Move as it may be -/
def riseOk (h r : Int) : Int → List Mv → Bool
  | _, [] => true
  | last, x :: l => decide (last < x.node ∧ 0 ≤ x.node ∧ x.node ≤ 6) && (mvOk x.prep x.chain x.by' h r && riseOk h r x.node l)
def movesOk (m : Mg) : Bool :=
  if m.round = 0 then decide (m.moves.length = 0) else decide (1 ≤ m.moves.length ∧ m.moves.length ≤ 7) && riseOk m.height m.round (-1) m.moves
def longOk (m : Mg) : Bool := decide ((m.chain.size : Int) = 3 * m.height)
def bodyOk (m : Mg) : Bool :=
  if m.kind = 1 then longOk m && (decide (m.prep = -1 ∧ m.by' = 0) && movesOk m)
  else if m.kind = 2 ∨ m.kind = 3 then longOk m && decide (m.prep = -1 ∧ m.by' = 0 ∧ m.moves.length = 0)
  else if m.kind = 4 then decide (m.moves.length = 0) && mvOk m.prep m.chain m.by' m.height m.round
  else if m.kind = 5 then longOk m && decide (m.prep = -1 ∧ 0 ≤ m.by' ∧ m.by' ≤ 127 ∧ m.moves.length = 0)
  else if m.kind = 6 then decide (m.chain.size = 0 ∧ m.prep = -1 ∧ m.by' = 0 ∧ m.moves.length = 0)
  else false
/-- may the message be? -/
def mayB (m : Mg) : Bool := headOk m && bodyOk m
end Go.Proofs.Ytpecfjejfkcolaa

/- The small functions of package wire and of the document's wire. -/
namespace Go.Proofs.Ytpecfjejfkcolaa
open Go.RowKit
set_option linter.unusedVariables false

set_option maxHeartbeats 400000 in
theorem within_any (n lo hi : Int) (w : World) :
    Calls Try.prog 68 #[.int .i64 n, .int .i64 lo, .int .i64 hi] w fun e w' => e = .returned (.bool (decide (lo ≤ n ∧ n ≤ hi))) ∧ w' = w := by
  go_enter Try.func68, Try.ntmps68
  go_wp2
  all_goals go_ret
  all_goals refine ⟨ret_bool ?_, rfl⟩
  all_goals rw [Bool.eq_iff_iff]
  all_goals simp only [Bool.and_eq_true, decide_eq_true_eq, Bool.false_eq_true, false_iff]
  all_goals omega
set_option maxHeartbeats 400000 in
theorem between_any (n lo hi : Int) (w : World) :
    Calls Try.prog 50 #[.int .i64 n, .int .i64 lo, .int .i64 hi] w fun e w' => e = .returned (.bool (decide (lo ≤ n ∧ n ≤ hi))) ∧ w' = w := by
  go_enter Try.func50, Try.ntmps50
  go_wp2
  all_goals go_ret
  all_goals refine ⟨ret_bool ?_, rfl⟩
  all_goals rw [Bool.eq_iff_iff]
  all_goals simp only [Bool.and_eq_true, decide_eq_true_eq, Bool.false_eq_true, false_iff]
  all_goals omega
set_option maxHeartbeats 400000 in
theorem isSet_any (n : Int) (w : World) :
    Calls Try.prog 72 #[.int .i64 n] w fun e w' => e = .returned (.bool (decide (0 ≤ n ∧ n ≤ 127))) ∧ w' = w := by
  go_enter Try.func72, Try.ntmps72
  go_wp2
  all_goals go_ret
  all_goals refine ⟨ret_bool ?_, rfl⟩
  all_goals rw [Bool.eq_iff_iff]
  all_goals simp only [Bool.and_eq_true, decide_eq_true_eq, Bool.false_eq_true, false_iff]
  all_goals omega

/-- a Move as a value; a message as one, its Moves a slice -/
abbrev mvV (x : Mv) : Value := .agg #[.int .i64 x.node, .int .i64 x.prep, .string x.chain, .int .i64 x.by']
abbrev mgV (m : Mg) (v : Value) : Value := .agg #[.int .i64 m.kind, .int .i64 m.frm, .int .i64 m.height, .int .i64 m.round, .string m.chain, .int .i64 m.prep, .int .i64 m.by', v]

theorem bytes_nil {c : ByteArray} : c.toList = [] ↔ c.size = 0 := by
  rw [toList_nil_iff_emptyBytes]
  constructor
  · rintro rfl; rfl
  · intro h
    apply ByteArray.ext
    exact Array.eq_empty_of_size_eq_zero h
theorem mvOk_iff {p : Int} {c : ByteArray} {b h r : Int} : mvOk p c b h r = true ↔ (p = -1 ∧ c.size = 0 ∧ b = 0) ∨ (p ≠ -1 ∧ 0 ≤ p ∧ p < r ∧ (c.size : Int) = 3 * h ∧ 0 ≤ b ∧ b ≤ 127) := by
  unfold mvOk
  by_cases hp : p = -1
  · rw [if_pos hp, decide_eq_true_eq]
    constructor
    · intro h1; exact .inl ⟨hp, h1⟩
    · rintro (⟨_, h1⟩ | ⟨h1, _⟩)
      · exact h1
      · exact absurd hp h1
  · rw [if_neg hp, decide_eq_true_eq]
    constructor
    · intro h1; exact .inr ⟨hp, h1⟩
    · rintro (⟨h1, _⟩ | ⟨_, h1⟩)
      · exact absurd h1 hp
      · exact h1

set_option maxHeartbeats 1000000 in
theorem moveMayBe_any (x : Mv) (h r : Int) (w : World) (hh : 0 ≤ h ∧ h ≤ 300) (hr : 0 ≤ r ∧ r ≤ 300) (hc : x.chain.size ≤ maxLen) :
    Calls Try.prog 71 #[mvV x, .int .i64 h, .int .i64 r] w fun e w' => e = .returned (.bool (mvOk x.prep x.chain x.by' h r)) ∧ Below w.heap.size w w' := by
  unfold maxLen at hc
  obtain ⟨node, p, c, b⟩ := x
  dsimp only at hc ⊢
  go_enter Try.func71, Try.ntmps71
  go_wp2_with (first
    | (go_at_call 68; refine (within_any _ _ _ _).mono ?_; rintro e w' ⟨rfl, rfl⟩)
    | (go_at_call 72; refine (isSet_any _ _).mono ?_; rintro e w' ⟨rfl, rfl⟩))
  all_goals go_ret
  all_goals refine ⟨ret_bool ?_, (Below.refl _ w).alloc (Nat.le_refl _) _⟩
  all_goals rw [Bool.eq_iff_iff, mvOk_iff]
  all_goals simp only [bytes_nil, Bool.and_eq_true, decide_eq_true_eq, beq_iff_eq, beq_eq_false_iff_ne, ne_eq, Bool.false_eq_true, false_iff] at *
  all_goals omega
set_option maxHeartbeats 1000000 in
theorem moved_any (p : Int) (c : ByteArray) (b h r : Int) (w : World) (hh : 0 ≤ h ∧ h ≤ 300) (hr : 0 ≤ r ∧ r ≤ 300) (hc : c.size ≤ maxLen) :
    Calls Try.prog 51 #[.int .i64 p, .string c, .int .i64 b, .int .i64 h, .int .i64 r] w fun e w' => e = .returned (.bool (mvOk p c b h r)) ∧ w' = w := by
  unfold maxLen at hc
  go_enter Try.func51, Try.ntmps51
  go_wp2_with (go_at_call 50; refine (between_any _ _ _ _).mono ?_; rintro e w' ⟨rfl, rfl⟩)
  all_goals go_ret
  all_goals refine ⟨ret_bool ?_, rfl⟩
  all_goals rw [Bool.eq_iff_iff, mvOk_iff]
  all_goals simp only [bytes_nil, beq_iff_eq, beq_eq_false_iff_ne, ne_eq, Bool.false_eq_true, false_iff] at *
  all_goals omega

set_option maxHeartbeats 1000000 in
theorem hasChain_any (m : Mg) (v : Value) (w : World) (hh : 0 ≤ m.height ∧ m.height ≤ 300) (hc : m.chain.size ≤ maxLen) (hv : ∃ ao n cap, v = .slice ao n cap) :
    Calls Try.prog 69 #[mgV m v] w fun e w' => e = .returned (.bool (longOk m)) ∧ Below w.heap.size w w' := by
  obtain ⟨ao, n, cap, rfl⟩ := hv
  unfold maxLen at hc
  obtain ⟨k, f, h, r, c, p, b, l⟩ := m
  dsimp only at hc hh ⊢
  go_enter Try.func69, Try.ntmps69
  go_wp2
  go_ret
  refine ⟨ret_bool ?_, (Below.refl _ w).alloc (Nat.le_refl _) _⟩
  rw [Bool.eq_iff_iff]
  simp only [longOk, beq_iff_eq, decide_eq_true_eq]
  omega
set_option maxHeartbeats 1000000 in
theorem headMayBe_any (m : Mg) (v : Value) (w : World) (hv : ∃ ao n cap, v = .slice ao n cap) :
    Calls Try.prog 62 #[mgV m v] w fun e w' => e = .returned (.bool (headOk m)) ∧ Below w.heap.size w w' := by
  obtain ⟨ao, n, cap, rfl⟩ := hv
  obtain ⟨k, f, h, r, c, p, b, l⟩ := m
  go_enter Try.func62, Try.ntmps62
  go_wp2_with (first
    | (go_at_call 68; refine (within_any _ _ _ _).mono ?_; rintro e w' ⟨rfl, rfl⟩)
    | (go_at_call 55; refine (isNode_any _ _).mono ?_; rintro e w' ⟨rfl, rfl⟩))
  all_goals go_ret
  all_goals refine ⟨ret_bool ?_, (Below.refl _ w).alloc (Nat.le_refl _) _⟩
  all_goals rw [Bool.eq_iff_iff]
  all_goals simp only [headOk, Bool.and_eq_true, decide_eq_true_eq, beq_iff_eq, beq_eq_false_iff_ne, ne_eq, Bool.false_eq_true, false_iff] at *
  all_goals (first | omega | (split <;> omega) | (split <;> split <;> omega))
end Go.Proofs.Ytpecfjejfkcolaa
