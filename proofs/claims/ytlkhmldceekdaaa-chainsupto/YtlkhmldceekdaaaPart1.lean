import Derived.KernelRfl
import Derived.Test.YtlkhmldceekdaaaProg
import Derived.WalkKit
import Derived.WalkSpells
import Derived.Maps.AppendAt
/- Sets of seven nodes as numbers below 128: plain facts, without the program. -/
namespace Go.Proofs.Ytlkhmldceekdaaa
set_option linter.unusedVariables false

/-- the nodes of a set, by rising numbers -/
def listed (s : Nat) : List Nat := (List.range 7).filter (fun i => s.testBit i)
def sizeS (s : Nat) : Nat := (listed s).length
def hasS (s : Nat) (n : Int) : Bool := decide (0 ≤ n) && decide (n < 7) && s.testBit n.toNat
def withS (s n : Nat) : Nat := s ||| (1 <<< n)
def withoutS (s n : Nat) : Nat := s &&& (127 ^^^ (1 <<< n))
def firstS (n : Nat) : Nat := (1 <<< n) - 1

theorem fin_all {p : Nat → Prop} {n : Nat} (h : ∀ i : Fin n, p i.1) {k : Nat} (hk : k < n) : p k := h ⟨k, hk⟩
theorem fin_all2 {p : Nat → Nat → Prop} {n m : Nat} (h : ∀ i : Fin n, ∀ j : Fin m, p i.1 j.1) {k l : Nat} (hk : k < n) (hl : l < m) : p k l := h ⟨k, hk⟩ ⟨l, hl⟩

theorem withS_lt {s n : Nat} (hs : s < 128) (hn : n < 7) : withS s n < 128 :=
  fin_all2 (p := fun s n => withS s n < 128) (by decide +kernel) hs hn
theorem withoutS_lt {s n : Nat} (hs : s < 128) (hn : n < 7) : withoutS s n < 128 :=
  fin_all2 (p := fun s n => withoutS s n < 128) (by decide +kernel) hs hn
theorem sizeS_le {s : Nat} : sizeS s ≤ 7 := by
  have h := List.length_filter_le (fun i => s.testBit i) (List.range 7)
  simpa [sizeS, listed] using h
theorem sizeS_with {s n : Nat} (hs : s < 128) (hn : n < 7) : sizeS (withS s n) = sizeS s + if s.testBit n then 0 else 1 :=
  fin_all2 (p := fun s n => sizeS (withS s n) = sizeS s + if s.testBit n then 0 else 1) (by decide +kernel) hs hn
theorem sizeS_without {s n : Nat} (hs : s < 128) (hn : n < 7) : sizeS (withoutS s n) + (if s.testBit n then 1 else 0) = sizeS s :=
  fin_all2 (p := fun s n => sizeS (withoutS s n) + (if s.testBit n then 1 else 0) = sizeS s) (by decide +kernel) hs hn
theorem has_with {s n m : Nat} (hs : s < 128) (hn : n < 7) (hm : m < 7) : (withS s n).testBit m = (decide (m = n) || s.testBit m) :=
  fin_all2 (p := fun s n => ∀ m : Fin 7, (withS s n).testBit m = (decide (m.1 = n) || s.testBit m)) (by decide +kernel) hs hn ⟨m, hm⟩
theorem has_without {s n m : Nat} (hs : s < 128) (hn : n < 7) (hm : m < 7) : (withoutS s n).testBit m = (!decide (m = n) && s.testBit m) :=
  fin_all2 (p := fun s n => ∀ m : Fin 7, (withoutS s n).testBit m = (!decide (m.1 = n) && s.testBit m)) (by decide +kernel) hs hn ⟨m, hm⟩
theorem mem_listed {s n : Nat} : n ∈ listed s ↔ n < 7 ∧ s.testBit n = true := by simp [listed]
theorem listed_first {n : Nat} (hn : n < 8) : listed (firstS n) = List.range n :=
  fin_all (p := fun n => listed (firstS n) = List.range n) (by decide +kernel) hn
theorem firstS_lt {n : Nat} (hn : n < 8) : firstS n < 128 :=
  fin_all (p := fun n => firstS n < 128) (by decide +kernel) hn
end Go.Proofs.Ytlkhmldceekdaaa

/- The small functions of package set and chains: what each call does. -/
namespace Go.Proofs.Ytlkhmldceekdaaa
open Go.RowKit
set_option linter.unusedVariables false

theorem hide {p : Prop} (h : p) : Hid p := h
theorem ret_int {k : IntKind} {a b : Int} (h : a = b) : Ending.returned (.int k a) = .returned (.int k b) := by rw [h]
theorem ret_bool {a b : Bool} (h : a = b) : Ending.returned (.bool a) = .returned (.bool b) := by rw [h]

set_option maxHeartbeats 400000 in
theorem isNode_any (n : Int) (w : World) :
    Calls Try.prog 55 #[.int .i64 n] w fun e w' => e = .returned (.bool (decide (0 ≤ n) && decide (n < 7))) ∧ w' = w := by
  go_enter Try.func55, Try.ntmps55
  go_wp2
  all_goals go_ret
  · exact ⟨by simp [*], rfl⟩
  · exact ⟨ret_bool (by rw [decide_eq_false (by omega)]; rfl), rfl⟩

set_option maxHeartbeats 400000 in
theorem digit_any (c : Int) (w : World) (h0 : 0 ≤ c) (h1 : c < 256) :
    Calls Try.prog 54 #[.int .u8 c] w fun e w' => e = .returned (.int .i64 (c - 48)) ∧ w' = w := by
  go_enter Try.func54, Try.ntmps54
  go_wp2
  go_ret
  exact ⟨rfl, rfl⟩


set_option maxHeartbeats 400000 in
theorem size_fin (s : Fin 128) (w : World) :
    Calls Try.prog 23 #[.int .i64 (s.1 : Int)] w fun e w' => e = .returned (.int .i64 (sizeS s.1)) ∧ w' = w := by
  go_enter Try.func23, Try.ntmps23
  go_wp2
  go_ret
  refine ⟨ret_int ?_, rfl⟩
  clear w
  revert s
  decide +kernel
theorem size_any (s : Nat) (h : s < 128) (w : World) :
    Calls Try.prog 23 #[.int .i64 (s : Int)] w fun e w' => e = .returned (.int .i64 (sizeS s)) ∧ w' = w :=
  size_fin ⟨s, h⟩ w

set_option maxHeartbeats 400000 in
theorem first_fin (s : Fin 8) (w : World) :
    Calls Try.prog 38 #[.int .i64 (s.1 : Int)] w fun e w' => e = .returned (.int .i64 (firstS s.1)) ∧ w' = w := by
  go_enter Try.func38, Try.ntmps38
  go_wp2
  go_ret
  refine ⟨ret_int ?_, rfl⟩
  clear w
  revert s
  decide +kernel
theorem first_any (s : Nat) (h : s < 8) (w : World) :
    Calls Try.prog 38 #[.int .i64 (s : Int)] w fun e w' => e = .returned (.int .i64 (firstS s)) ∧ w' = w :=
  first_fin ⟨s, h⟩ w

set_option maxHeartbeats 400000 in
theorem with_fin (s : Fin 128) (n : Fin 7) (w : World) :
    Calls Try.prog 57 #[.int .i64 (s.1 : Int), .int .i64 (n.1 : Int)] w fun e w' => e = .returned (.int .i64 (withS s.1 n.1)) ∧ w' = w := by
  go_enter Try.func57, Try.ntmps57
  go_wp2
  go_ret
  refine ⟨ret_int ?_, rfl⟩
  clear w
  revert s n
  decide +kernel
theorem with_any (s n : Nat) (hs : s < 128) (hn : n < 7) (w : World) :
    Calls Try.prog 57 #[.int .i64 (s : Int), .int .i64 (n : Int)] w fun e w' => e = .returned (.int .i64 (withS s n)) ∧ w' = w :=
  with_fin ⟨s, hs⟩ ⟨n, hn⟩ w
set_option maxHeartbeats 400000 in
theorem without_fin (s : Fin 128) (n : Fin 7) (w : World) :
    Calls Try.prog 58 #[.int .i64 (s.1 : Int), .int .i64 (n.1 : Int)] w fun e w' => e = .returned (.int .i64 (withoutS s.1 n.1)) ∧ w' = w := by
  go_enter Try.func58, Try.ntmps58
  go_wp2
  go_ret
  refine ⟨ret_int ?_, rfl⟩
  clear w
  revert s n
  decide +kernel
theorem without_any (s n : Nat) (hs : s < 128) (hn : n < 7) (w : World) :
    Calls Try.prog 58 #[.int .i64 (s : Int), .int .i64 (n : Int)] w fun e w' => e = .returned (.int .i64 (withoutS s n)) ∧ w' = w :=
  without_fin ⟨s, hs⟩ ⟨n, hn⟩ w
set_option maxHeartbeats 400000 in
theorem has_fin (s : Fin 128) (n : Int) (w : World) :
    Calls Try.prog 41 #[.int .i64 (s.1 : Int), .int .i64 n] w fun e w' => e = .returned (.bool (hasS s.1 n)) ∧ w' = w := by
  go_enter Try.func41, Try.ntmps41
  go_wp2_with (go_at_call 55; refine (isNode_any _ _).mono ?_; rintro e w' ⟨rfl, rfl⟩)
  all_goals go_ret
  · rename_i h
    refine ⟨ret_bool ?_, rfl⟩
    obtain ⟨h0, h1⟩ := h
    obtain ⟨n, rfl⟩ := Int.eq_ofNat_of_zero_le h0
    have hn : n < 7 := by omega
    obtain ⟨m, rfl⟩ : ∃ m : Fin 7, n = m.1 := ⟨⟨n, hn⟩, rfl⟩
    clear w' h0 h1 hn
    revert s m
    decide +kernel
  · rename_i h
    refine ⟨ret_bool ?_, rfl⟩
    unfold hasS
    by_cases h0 : 0 ≤ n
    · rw [decide_eq_false (show ¬ n < 7 by omega)]; simp
    · rw [decide_eq_false h0]; simp
theorem has_any (s : Nat) (hs : s < 128) (n : Int) (w : World) :
    Calls Try.prog 41 #[.int .i64 (s : Int), .int .i64 n] w fun e w' => e = .returned (.bool (hasS s n)) ∧ w' = w :=
  has_fin ⟨s, hs⟩ n w
set_option maxHeartbeats 400000 in
theorem blocks_any (s : ByteArray) (w : World) (hs : s.size ≤ maxLen) :
    Calls Try.prog 37 #[.string s] w fun e w' => e = .returned (.int .i64 ((s.size / 3 : Nat) : Int)) ∧ w' = w := by
  unfold maxLen at hs
  go_enter Try.func37, Try.ntmps37
  go_wp2
  go_ret
  exact ⟨by first | rfl | simp, rfl⟩
set_option maxHeartbeats 400000 in
theorem nodes_any (s : Int) (w : World) :
    Calls Try.prog 24 #[.int .i64 s] w fun e w' => e = .returned (.func (.func 44) #[] #[.pointer (some ⟨w.heap.size, 0, none⟩)]) ∧ w' = w.alloc (.cells #[.int .i64 s] 66) := by
  go_enter Try.func24, Try.ntmps24
  go_wp2
  go_ret
  exact ⟨rfl, rfl⟩
set_option maxHeartbeats 400000 in
theorem entries_any (s : ByteArray) (w : World) :
    Calls Try.prog 39 #[.string s] w fun e w' => e = .returned (.func (.func 53) #[] #[.pointer (some ⟨w.heap.size, 0, none⟩)]) ∧ w' = w.alloc (.cells #[.string s] 9) := by
  go_enter Try.func39, Try.ntmps39
  go_wp2
  go_ret
  exact ⟨rfl, rfl⟩
end Go.Proofs.Ytlkhmldceekdaaa

/- Chains by their bytes: the plain mathematics of members and leaders, without the program. -/
namespace Go.Proofs.Ytlkhmldceekdaaa
set_option linter.unusedVariables false

/-- the byte at a place, as a number; 0 beyond -/
def byt (s : ByteArray) (i : Nat) : Nat := (s.data.toList.getD i 0).toNat
theorem byt_eq (s : ByteArray) (i : Nat) (h : i < s.size) : s[i].toNat = byt s i := by
  have h' : i < s.data.size := h
  simp only [byt, List.getD_eq_getElem?_getD, Array.getElem?_toList]
  rw [Array.getElem?_eq_getElem h']
  rfl
theorem byt_lt (s : ByteArray) (i : Nat) : byt s i < 256 := by
  unfold byt
  exact UInt8.toNat_lt _

/-- is it a block (whoever made it)? -/
def blkOk (x y z : Nat) : Bool :=
  decide (48 ≤ x ∧ x ≤ 54 ∧ ((y = 46 ∧ z = 48) ∨ ((y = 43 ∨ y = 45) ∧ 48 ≤ z ∧ z ≤ 54)))
theorem blkOk_iff {x y z : Nat} : blkOk x y z = true ↔ (48 ≤ x ∧ x ≤ 54 ∧ ((y = 46 ∧ z = 48) ∨ ((y = 43 ∨ y = 45) ∧ 48 ≤ z ∧ z ≤ 54))) := by
  simp only [blkOk, decide_eq_true_eq]

/-- a block, read: its maker, its sign, whom it is about -/
abbrev Blk := Nat × Nat × Nat

/-- those who vote so about a node: the document's list, the program's set -/
def votesL : List Blk → Nat → Nat → List Nat → List Nat
  | [], _, _, acc => acc
  | b :: r, sign, node, acc => votesL r sign node (if b.2.1 = sign ∧ b.2.2 = node ∧ b.1 ∉ acc then acc ++ [b.1] else acc)
def votesS : List Blk → Nat → Nat → Nat → Nat
  | [], _, _, acc => acc
  | b :: r, sign, node, acc => votesS r sign node (if b.2.1 = sign ∧ b.2.2 = node then withS acc b.1 else acc)

theorem votes_same (bl : List Blk) (sign node : Nat) (hb : ∀ b ∈ bl, b.1 < 7) : ∀ (L : List Nat) (S : Nat), S < 128 → (∀ x, x < 7 → (x ∈ L ↔ S.testBit x = true)) → L.length = sizeS S →
    (votesL bl sign node L).length = sizeS (votesS bl sign node S) ∧ votesS bl sign node S < 128 := by
  induction bl with
  | nil => intro L S hS _ hl; exact ⟨hl, hS⟩
  | cons b r ih =>
    intro L S hS hm hl
    have hb7 := hb b (by simp)
    have ih' := ih (fun x hx => hb x (by simp [hx]))
    simp only [votesL, votesS]
    by_cases h1 : b.2.1 = sign ∧ b.2.2 = node
    · by_cases h2 : b.1 ∈ L
      · rw [if_neg (by intro h; exact h.2.2 h2), if_pos h1]
        have ht := (hm b.1 hb7).1 h2
        refine ih' L _ (withS_lt hS hb7) (fun x hx => ?_) (by rw [sizeS_with hS hb7, ht]; simpa using hl)
        rw [has_with hS hb7 hx, hm x hx]
        by_cases e : x = b.1
        · subst e; simp [ht]
        · simp [e]
      · rw [if_pos ⟨h1.1, h1.2, h2⟩, if_pos h1]
        have ht : S.testBit b.1 = false := by
          cases h : S.testBit b.1
          · rfl
          · exact absurd ((hm b.1 hb7).2 h) h2
        refine ih' _ _ (withS_lt hS hb7) (fun x hx => ?_) (by rw [sizeS_with hS hb7, ht]; simp [hl])
        rw [has_with hS hb7 hx, List.mem_append, hm x hx]
        by_cases e : x = b.1
        · subst e; simp
        · simp [e]
    · rw [if_neg (by intro h; exact h1 ⟨h.1, h.2.1⟩), if_neg h1]
      exact ih' L S hS hm hl

/-- how many different makers vote so -/
def votes (bl : List Blk) (sign node : Nat) : Nat := (votesL bl sign node []).length
theorem votes_eq (bl : List Blk) (sign node : Nat) (hb : ∀ b ∈ bl, b.1 < 7) : sizeS (votesS bl sign node 0) = votes bl sign node :=
  (votes_same bl sign node hb [] 0 (by omega) (by simp) (by decide)).1.symm
theorem votesS_lt (bl : List Blk) (sign node : Nat) (hb : ∀ b ∈ bl, b.1 < 7) : votesS bl sign node 0 < 128 :=
  (votes_same bl sign node hb [] 0 (by omega) (by simp) (by decide)).2

/-- the members behind an epoch's blocks, node by node -/
def stepS (bl : List Blk) (s i : Nat) : Nat :=
  if 2 ≤ votes bl 43 i then withS s i
  else if 2 ≤ votes bl 45 i ∧ s.testBit i = true ∧ 4 < sizeS s then withoutS s i
  else s
def countTo (bl : List Blk) (s : Nat) : Nat → Nat
  | 0 => s
  | k + 1 => stepS bl (countTo bl s k) k
theorem stepS_lt {bl : List Blk} {s i : Nat} (hs : s < 128) (hi : i < 7) : stepS bl s i < 128 := by
  unfold stepS
  split
  · exact withS_lt hs hi
  · split
    · exact withoutS_lt hs hi
    · exact hs
theorem countTo_lt {bl : List Blk} {s : Nat} (hs : s < 128) : ∀ k, k ≤ 7 → countTo bl s k < 128
  | 0, _ => hs
  | k + 1, h => stepS_lt (countTo_lt hs k (by omega)) (by omega)
def countS (bl : List Blk) (s : Nat) : Nat := countTo bl s 7
theorem countS_lt {bl : List Blk} {s : Nat} (hs : s < 128) : countS bl s < 128 := countTo_lt hs 7 (by omega)

/-- the block at a place of a chain (from 0 on) -/
def blkAt (c : ByteArray) (k : Nat) : Blk := (byt c (3 * k) - 48, byt c (3 * k + 1), byt c (3 * k + 2) - 48)
def okAt (c : ByteArray) (k : Nat) : Bool := blkOk (byt c (3 * k)) (byt c (3 * k + 1)) (byt c (3 * k + 2))
/-- the members behind the first k blocks; none: the chain may not be -/
def memTo (c : ByteArray) (s0 : Nat) : Nat → Option Nat
  | 0 => some s0
  | k + 1 => match memTo c s0 k with
    | none => none
    | some s => if okAt c k = true ∧ s.testBit (byt c (3 * k) - 48) = true then
        some (if (k + 1) % 3 = 0 then countS [blkAt c (k - 2), blkAt c (k - 1), blkAt c k] s else s) else none
theorem memTo_lt {c : ByteArray} {s0 : Nat} (h0 : s0 < 128) : ∀ k s, memTo c s0 k = some s → s < 128
  | 0, s, h => by simp [memTo] at h; omega
  | k + 1, s, h => by
    rw [memTo] at h
    cases hm : memTo c s0 k with
    | none => rw [hm] at h; cases h
    | some s' =>
      rw [hm] at h
      have hl := memTo_lt h0 k s' hm
      simp only at h
      split at h
      · simp only [Option.some.injEq] at h
        rw [← h]
        split
        · exact countS_lt hl
        · exact hl
      · cases h
theorem memTo_none {c : ByteArray} {s0 k : Nat} (h : memTo c s0 k = none) : ∀ d, memTo c s0 (k + d) = none
  | 0 => h
  | d + 1 => by rw [← Nat.add_assoc, memTo, memTo_none h d]

/-- the members of the block behind a chain -/
def members (n : Nat) (c : ByteArray) : Option Nat :=
  if c.size % 3 = 0 ∧ c.size ≤ 18 then memTo c (firstS n) (c.size / 3) else none
theorem members_lt {n : Nat} {c : ByteArray} {s : Nat} (hn : n < 8) (h : members n c = some s) : s < 128 := by
  unfold members at h
  split at h
  · exact memTo_lt (firstS_lt hn) _ _ h
  · cases h
end Go.Proofs.Ytlkhmldceekdaaa

/- The document's small functions: In, block. -/
namespace Go.Proofs.Ytlkhmldceekdaaa
open Go.RowKit
set_option linter.unusedVariables false

/-- a slice value that reads as these numbers -/
def Ints (w : World) (v : Value) (l : List Int) : Prop :=
  (l = [] ∧ v = .slice none 0 0) ∨ ∃ g cap, v = .slice (some ⟨g, 0, none⟩) l.length cap ∧ ∀ j, j < l.length → w.cell? ⟨g, j, none⟩ = some (.int .i64 (l.getD j 0))

set_option maxHeartbeats 400000 in
theorem in_any (l : List Int) (v : Value) (n : Int) (w : World) (hv : Ints w v l) (hl : l.length ≤ 1000) :
    Calls Try.prog 27 #[v, .int .i64 n] w fun e w' => e = .returned (.bool (decide (n ∈ l))) ∧ w' = w := by
  rcases hv with ⟨rfl, rfl⟩ | ⟨g, cap, rfl, hc⟩
  · go_enter Try.func27, Try.ntmps27
    go_wp2
    refine wp_loop_rounds 1 ?_
    rw [rounds_succ]
    go_wp2
    go_ret
    exact ⟨ret_bool (by simp), rfl⟩
  · go_enter Try.func27, Try.ntmps27
    go_wp2
    go_loop [5] (fun i => ∃ k : Nat, k ≤ l.length ∧ i = .int .i64 k ∧ n ∉ l.take k) (fun i => l.length - (intOf i).toNat)
    case atStart => exact ⟨0, Nat.zero_le _, rfl, by simp⟩
    case round =>
      obtain ⟨k, hk, rfl, hn⟩ := hrel
      by_cases hlt : k < l.length
      · have hck := hc k hlt
        have HN : Hid (n ∉ l.take k) := hn
        clear hn
        go_wp2
        · have hb : (l[k] == n) = true := by assumption
          go_ret
          refine ⟨ret_bool ?_, rfl⟩
          have e : l[k] = n := by simpa using hb
          rw [eq_comm, decide_eq_true_eq, ← e]
          exact List.getElem_mem hlt
        · have hb : (l[k] == n) = false := by assumption
          go_round
          case rel =>
            refine ⟨k + 1, by omega, by go_num, ?_⟩
            rw [List.take_succ_eq_append_getElem hlt, List.mem_append]
            rintro (h | h)
            · exact HN.out h
            · simp at h
              simp [h] at hb
          case measure => simp [intOf]; omega
      · go_wp2
        go_ret
        refine ⟨ret_bool ?_, rfl⟩
        rw [List.take_of_length_le (by omega)] at hn
        simp [hn]

theorem in_is (b : Bool) (l : List Int) (v : Value) (n : Int) (w : World) (hv : Ints w v l) (hl : l.length ≤ 1000) (h : decide (n ∈ l) = b) :
    Calls Try.prog 27 #[v, .int .i64 n] w fun e w' => e = .returned (.bool b) ∧ w' = w := by
  rw [← h]; exact in_any l v n w hv hl

set_option maxHeartbeats 400000 in
theorem block_any (s : ByteArray) (w : World) (hs : s.size = 3) :
    Calls Try.prog 26 #[.string s] w fun e w' => e = .returned (.bool (blkOk (byt s 0) (byt s 1) (byt s 2))) ∧ w' = w := by
  have h0 : 0 < s.size := by omega
  have h1 : 1 < s.size := by omega
  have h2 : 2 < s.size := by omega
  have e0 := byt_eq s 0 h0
  have e1 := byt_eq s 1 h1
  have e2 := byt_eq s 2 h2
  go_enter Try.func26, Try.ntmps26
  go_wp2
  all_goals
    go_ret
    refine ⟨ret_bool ?_, rfl⟩
    rw [Bool.eq_iff_iff, blkOk_iff]
    clear e0 e1 e2
    simp only [beq_iff_eq, decide_eq_true_eq, beq_eq_false_iff_ne, ne_eq, Bool.false_eq_true, false_iff] at *
    omega
end Go.Proofs.Ytlkhmldceekdaaa

/- The document's votes. -/
namespace Go.Proofs.Ytlkhmldceekdaaa
open Go.RowKit
set_option linter.unusedVariables false

theorem Try.info3 : (Try.prog.info? 3).map (fun i => (i.zero, i.size, i.bytes)) = some (some (.int .i64 0), 1, 8) := by kernel_rfl

theorem ints_of_owns {w : World} {base : Nat} {v : Value} {l : List Int} (h : w.ownsRow base 3 1 v l.length (l.map (Value.int .i64))) : Ints w v l := by
  obtain ⟨hl, h⟩ := h
  rcases h with ⟨rfl, h0⟩ | ⟨g, cap, cur, rfl, hb, hh, hc, hm, hs, ht⟩
  · exact .inl ⟨List.length_eq_zero_iff.1 h0, rfl⟩
  · refine .inr ⟨g, cap, rfl, fun j hj => ?_⟩
    have h' : w.ownsRow base 3 1 (.slice (some ⟨g, 0, none⟩) l.length cap) l.length (l.map (Value.int .i64)) := ⟨hl, .inr ⟨g, cap, cur, rfl, hb, hh, hc, hm, hs, ht⟩⟩
    rw [h'.cellAt j (by omega)]
    simp [List.getElem?_map, List.getElem?_eq_getElem hj, List.getD_eq_getElem?_getD]

theorem votesL_snoc (r : List Blk) (b : Blk) (sign node : Nat) : ∀ acc, votesL (r ++ [b]) sign node acc =
    (if b.2.1 = sign ∧ b.2.2 = node ∧ b.1 ∉ votesL r sign node acc then votesL r sign node acc ++ [b.1] else votesL r sign node acc) := by
  induction r with
  | nil => intro acc; rfl
  | cons c r ih => intro acc; simp only [List.cons_append, votesL]; exact ih _
theorem votesL_len (r : List Blk) (sign node : Nat) : ∀ acc, (votesL r sign node acc).length ≤ acc.length + r.length := by
  induction r with
  | nil => intro acc; simp [votesL]
  | cons c r ih =>
    intro acc
    simp only [votesL]
    refine Nat.le_trans (ih _) ?_
    split <;> simp <;> omega

/-- the first k blocks of a text -/
def blksTo (s : ByteArray) (k : Nat) : List Blk := (List.range k).map (blkAt s)
theorem blksTo_succ (s : ByteArray) (k : Nat) : blksTo s (k + 1) = blksTo s k ++ [blkAt s k] := by simp [blksTo, List.range_succ]
theorem blksTo_len (s : ByteArray) (k : Nat) : (blksTo s k).length = k := by simp [blksTo]

theorem votes_hit {s : ByteArray} {k sign node : Nat} (h : byt s (3 * k + 1) = sign ∧ byt s (3 * k + 2) - 48 = node ∧ byt s (3 * k) - 48 ∉ votesL (blksTo s k) sign node []) :
    votesL (blksTo s (k + 1)) sign node [] = votesL (blksTo s k) sign node [] ++ [byt s (3 * k) - 48] := by
  rw [blksTo_succ, votesL_snoc]; exact if_pos h
theorem votes_miss {s : ByteArray} {k sign node : Nat} (h : ¬ (byt s (3 * k + 1) = sign ∧ byt s (3 * k + 2) - 48 = node ∧ byt s (3 * k) - 48 ∉ votesL (blksTo s k) sign node [])) :
    votesL (blksTo s (k + 1)) sign node [] = votesL (blksTo s k) sign node [] := by
  rw [blksTo_succ, votesL_snoc]; exact if_neg h

def castL (l : List Nat) : List Int := l.map (fun n : Nat => (n : Int))
theorem mem_castL {n : Nat} {l : List Nat} : ((n : Int) ∈ castL l) ↔ n ∈ l := by
  unfold castL
  rw [List.mem_map]
  constructor
  · rintro ⟨a, ha, e⟩
    have : a = n := Int.ofNat.inj e
    exact this ▸ ha
  · intro h; exact ⟨n, h, rfl⟩

/-- BEHIND THE APPEND OF ONE NUMBER to a slice of the call's own -/
theorem push_ints {w0 wr w1 : World} {base : Nat} {l : List Int} {v v' : Value} {x : Int} {tmp : Obj} (hB : Below base w0 wr) (hsz : base ≤ wr.heap.size)
    (hown : wr.ownsRow base 3 1 v l.length (l.map (Value.int .i64))) (hown' : w1.ownsRow base 3 1 v' (l.length + 1) (l.map (Value.int .i64) ++ [.int .i64 x])) (hgrow : (wr.alloc tmp).grownBy w1 v.ownBlock) :
    w1.ownsRow base 3 1 v' (l ++ [x]).length ((l ++ [x]).map (Value.int .i64)) ∧ Below base w0 w1 := by
  refine ⟨by simpa using hown', (hB.alloc hsz tmp).grown hgrow (by simp; omega) fun k hk => (hown.lt k hk).1⟩
theorem castL_snoc (l : List Nat) (n : Nat) : castL (l ++ [n]) = castL l ++ [(n : Int)] := by simp [castL]

set_option maxRecDepth 100000 in
set_option maxHeartbeats 1000000 in
theorem votes_any (s : ByteArray) (sign node : Nat) (w : World) (hs : s.size = 9) (hg : sign < 256) (hn : node < 7) (hok : ∀ k, k < 3 → okAt s k = true) :
    Calls Try.prog 46 #[.string s, .int .u8 sign, .int .i64 node] w fun e w' => e = .returned (.int .i64 (votes (blksTo s 3) sign node)) ∧ Below w.heap.size w w' := by
  obtain ⟨i0, hi, hz0, hz1, hz2⟩ := info_parts Try.info3
  go_enter Try.func46, Try.ntmps46
  go_wp2
  go_loopw [7, 8] (fun v i wr => ∃ k : Nat, k ≤ 3 ∧ i = .int .i64 ((3 * k : Nat) : Int) ∧
      wr.ownsRow w.heap.size 3 1 v (castL (votesL (blksTo s k) sign node [])).length ((castL (votesL (blksTo s k) sign node [])).map (Value.int .i64)) ∧ Below w.heap.size w wr) (fun _ i _ => 9 - (intOf i).toNat)
  case atStart => exact ⟨0, Nat.zero_le _, rfl, World.ownsRow_nil _ _ _ _, Below.refl _ _⟩
  case round =>
    obtain ⟨k, hk, rfl, hown, hB⟩ := hrel
    have hlen : (castL (votesL (blksTo s k) sign node [])).length ≤ k := by
      have := votesL_len (blksTo s k) sign node []
      simpa [castL, blksTo_len] using this
    by_cases hlt : k < 3
    · have a0 : 3 * k < s.size := by omega
      have a1 : 3 * k + 1 < s.size := by omega
      have a2 : 3 * k + 2 < s.size := by omega
      have e0 := byt_eq s (3 * k) a0
      have e1 := byt_eq s (3 * k + 1) a1
      have e2 := byt_eq s (3 * k + 2) a2
      have hb := hok k hlt
      rw [okAt, blkOk_iff] at hb
      have HI := ints_of_owns hown
      have HOK : Hid (∀ k, k < 3 → okAt s k = true) := hok
      clear hok
      have hcast : ((byt s (3 * k) : Int) - 48) = ((byt s (3 * k) - 48 : Nat) : Int) := by omega
      have hsize := hB.size
      by_cases hP : byt s (3 * k + 1) = sign ∧ byt s (3 * k + 2) - 48 = node ∧ byt s (3 * k) - 48 ∉ votesL (blksTo s k) sign node []
      · have HS := hide (votes_hit hP)
        obtain ⟨hy, hz, hm⟩ := hP
        have hm' : decide (((byt s (3 * k) : Int) - 48) ∈ castL (votesL (blksTo s k) sign node [])) = false := by
          rw [hcast, decide_eq_false_iff_not, mem_castL]; exact hm
        have HC := hide hcast
        clear hcast hm
        have hyB : ((byt s (3 * k + 1) : Int) == (sign : Int)) = true := by simp [hy]
        have hzB : (((byt s (3 * k + 2) : Int) - 48) == (node : Int)) = true := by simp; omega
        have HY := hide hy
        have HZ := hide hz
        clear hy hz
        go_wp2_with (first
          | (go_at_call 27; refine (in_is false _ _ _ _ HI (by omega) hm').mono ?_; rintro e w' ⟨rfl, rfl⟩)
          | (at_builtin; refine wpList_append_own _ rfl _ _ 45 rfl w.heap.size 3 i0 (.int .i64 0) 1 8 Try.underlying45 hi hz0 hz1 hz2 rfl (by decide) _ _ _ rfl (hown.alloc _) ⟨_, 0, none⟩ 1 1 [.int .i64 ((byt s (3 * k) : Int) - 48)] rfl rfl (cell_one_new _ _ _) (by simp [Value.oneCell']) (by unfold maxLen; omega) (by omega) (by simp; omega) ?_; intro v' w1 hown' hgrow _))
        have R := push_ints hB hsize hown hown' hgrow
        rw [HC.out, ← castL_snoc, ← HS.out] at R
        clear hown' hgrow hown HI
        go_wp2
        go_roundw
        case rel => exact ⟨k + 1, by omega, by go_num, R.1, R.2⟩
        case measure => simp [intOf]; omega
      · have HS := hide (votes_miss hP)
        have HC := hide hcast
        have hmm : ∃ b, decide (((byt s (3 * k) : Int) - 48) ∈ castL (votesL (blksTo s k) sign node [])) = b := ⟨_, rfl⟩
        obtain ⟨b, hm'⟩ := hmm
        have hall : byt s (3 * k + 1) = sign → byt s (3 * k + 2) - 48 = node → b = true := by
          intro h1 h2
          cases b with
          | true => rfl
          | false =>
            rw [hcast, decide_eq_false_iff_not, mem_castL] at hm'
            exact absurd ⟨h1, h2, hm'⟩ hP
        clear hcast hP
        by_cases hy : byt s (3 * k + 1) = sign
        · have hyB : ((byt s (3 * k + 1) : Int) == (sign : Int)) = true := by simp [hy]
          by_cases hz : byt s (3 * k + 2) - 48 = node
          · have hzB : (((byt s (3 * k + 2) : Int) - 48) == (node : Int)) = true := by simp; omega
            have hbt := hall hy hz
            subst hbt
            clear hy hz hall
            go_wp2_with (go_at_call 27; refine (in_is true _ _ _ _ HI (by omega) hm').mono ?_; rintro e w' ⟨rfl, rfl⟩)
            go_roundw
            case rel => exact ⟨k + 1, by omega, by go_num, by rw [HS.out]; exact hown, hB⟩
            case measure => simp [intOf]; omega
          · have hzB : (((byt s (3 * k + 2) : Int) - 48) == (node : Int)) = false := by simp; omega
            clear hy hz hall
            go_wp2_with (go_at_call 27; refine (in_is b _ _ _ _ HI (by omega) hm').mono ?_; rintro e w' ⟨rfl, rfl⟩)
            go_roundw
            case rel => exact ⟨k + 1, by omega, by go_num, by rw [HS.out]; exact hown, hB⟩
            case measure => simp [intOf]; omega
        · have hyB : ((byt s (3 * k + 1) : Int) == (sign : Int)) = false := by simp; omega
          clear hy hall
          go_wp2_with (go_at_call 27; refine (in_is b _ _ _ _ HI (by omega) hm').mono ?_; rintro e w' ⟨rfl, rfl⟩)
          go_roundw
          case rel => exact ⟨k + 1, by omega, by go_num, by rw [HS.out]; exact hown, hB⟩
          case measure => simp [intOf]; omega
    · obtain rfl : k = 3 := by omega
      obtain ⟨hl0, hown⟩ := hown
      rcases hown with ⟨rfl, h0⟩ | ⟨g, cap, cur, rfl, _⟩
      · go_wp2
        go_ret
        exact ⟨ret_int (by simp only [castL, List.length_map] at h0; unfold votes; omega), hB⟩
      · go_wp2
        go_ret
        exact ⟨ret_int (by simp [votes, castL]), hB⟩
end Go.Proofs.Ytlkhmldceekdaaa

/- The document's turned. -/
namespace Go.Proofs.Ytlkhmldceekdaaa
open Go.RowKit
set_option linter.unusedVariables false

/-- a list of nodes that holds a set, in whatever order -/
def Holds7 (l : List Nat) (s : Nat) : Prop := (∀ x, x ∈ l → x < 7) ∧ (∀ x, x < 7 → (x ∈ l ↔ s.testBit x = true)) ∧ l.length = sizeS s

theorem Holds7.listed {s : Nat} : Holds7 (listed s) s :=
  ⟨fun _ h => (mem_listed.1 h).1, fun _ hx => ⟨fun h => (mem_listed.1 h).2, fun h => mem_listed.2 ⟨hx, h⟩⟩, rfl⟩
theorem Holds7.push {l : List Nat} {s n : Nat} (h : Holds7 l s) (hs : s < 128) (hn : n < 7) (hm : n ∉ l) : Holds7 (l ++ [n]) (withS s n) := by
  have ht : s.testBit n = false := by
    cases e : s.testBit n
    · rfl
    · exact absurd ((h.2.1 n hn).2 e) hm
  refine ⟨fun x hx => ?_, fun x hx => ?_, by rw [sizeS_with hs hn, ht]; simp [h.2.2]⟩
  · rcases List.mem_append.1 hx with h' | h'
    · exact h.1 x h'
    · simp at h'; omega
  · rw [has_with hs hn hx, List.mem_append, h.2.1 x hx]
    by_cases e : x = n
    · subst e; simp
    · simp [e]
theorem Holds7.same {l : List Nat} {s n : Nat} (h : Holds7 l s) (hs : s < 128) (hn : n < 7) (hm : n ∈ l) : Holds7 l (withS s n) := by
  have ht := (h.2.1 n hn).1 hm
  refine ⟨h.1, fun x hx => ?_, by rw [sizeS_with hs hn, ht]; simp [h.2.2]⟩
  rw [has_with hs hn hx, h.2.1 x hx]
  by_cases e : x = n
  · subst e; simp [ht]
  · simp [e]
def without (l : List Nat) (n : Nat) : List Nat := l.filter (fun x => x != n)
theorem without_len : ∀ (l : List Nat) (n : Nat), l.Nodup → n ∈ l → (without l n).length + 1 = l.length
  | [], n, _, h => by simp at h
  | a :: l, n, hd, h => by
    have hd' := List.nodup_cons.1 hd
    by_cases e : a = n
    · subst e
      have : without l a = l := List.filter_eq_self.2 fun x hx => by simp; intro e; exact hd'.1 (e ▸ hx)
      have h2 : without (a :: l) a = without l a := by simp [without]
      rw [h2, this]; simp
    · have h2 : without (a :: l) n = a :: without l n := by simp [without, e]
      have hm : n ∈ l := by simpa [Ne.symm e] using h
      rw [h2, List.length_cons, without_len l n hd'.2 hm, List.length_cons]
/-- the document's list as it goes: no node twice -/
def Walks7 (l : List Nat) (s : Nat) : Prop := l.Nodup ∧ Holds7 l s
theorem Walks7.listed {s : Nat} : Walks7 (listed s) s := ⟨List.Pairwise.filter _ List.nodup_range, Holds7.listed⟩
theorem Walks7.push {l : List Nat} {s n : Nat} (h : Walks7 l s) (hs : s < 128) (hn : n < 7) (hm : n ∉ l) : Walks7 (l ++ [n]) (withS s n) := by
  refine ⟨?_, h.2.push hs hn hm⟩
  rw [List.nodup_append]
  refine ⟨h.1, by simp, fun a ha b hb => ?_⟩
  simp at hb
  intro e
  exact hm (hb ▸ e ▸ ha)
theorem Walks7.same {l : List Nat} {s n : Nat} (h : Walks7 l s) (hs : s < 128) (hn : n < 7) (hm : n ∈ l) : Walks7 l (withS s n) := ⟨h.1, h.2.same hs hn hm⟩
theorem Walks7.drop {l : List Nat} {s n : Nat} (h : Walks7 l s) (hs : s < 128) (hn : n < 7) (hm : n ∈ l) : Walks7 (without l n) (withoutS s n) := by
  have ht := (h.2.2.1 n hn).1 hm
  refine ⟨List.Pairwise.filter _ h.1, fun x hx => h.2.1 x (List.mem_filter.1 hx).1, fun x hx => ?_, ?_⟩
  · rw [has_without hs hn hx, without, List.mem_filter, h.2.2.1 x hx]
    by_cases e : x = n
    · subst e; simp
    · simp [e]
  · have h1 := without_len l n h.1 hm
    have h2 := sizeS_without hs hn
    rw [ht] at h2
    simp at h2
    have h3 := h.2.2.2
    omega
theorem Walks7.len {l : List Nat} {s : Nat} (h : Walks7 l s) : l.length ≤ 7 := by rw [h.2.2.2]; exact sizeS_le
theorem Walks7.mem {l : List Nat} {s n : Nat} (h : Walks7 l s) (hn : n < 7) : decide (n ∈ l) = s.testBit n := by
  rw [Bool.eq_iff_iff, decide_eq_true_eq, h.2.2.1 n hn]
theorem without_snoc (l : List Nat) (k n : Nat) (hk : k < l.length) : without (l.take (k + 1)) n = if l[k] = n then without (l.take k) n else without (l.take k) n ++ [l[k]] := by
  rw [List.take_succ_eq_append_getElem hk]
  unfold without
  rw [List.filter_append]
  by_cases e : l[k] = n
  · rw [if_pos e]
    have : List.filter (fun x => x != n) [l[k]] = [] := by simp [e]
    rw [this, List.append_nil]
  · rw [if_neg e]
    have : List.filter (fun x => x != n) [l[k]] = [l[k]] := by simp [e]
    rw [this]
def listedTo (s k : Nat) : List Nat := (List.range k).filter (fun i => s.testBit i)
theorem listedTo_succ (s k : Nat) : listedTo s (k + 1) = if s.testBit k = true then listedTo s k ++ [k] else listedTo s k := by
  by_cases e : s.testBit k = true <;> simp [listedTo, List.range_succ, e]
theorem listedTo_len (s k : Nat) : (listedTo s k).length ≤ k := by
  have h := List.length_filter_le (fun i => s.testBit i) (List.range k)
  simpa [listedTo] using h
end Go.Proofs.Ytlkhmldceekdaaa

/- The document's turned, walked. -/
namespace Go.Proofs.Ytlkhmldceekdaaa
open Go.RowKit
set_option linter.unusedVariables false

theorem ownsRow_below {w w' : World} {base : Nat} {e : TypeId} {size : Nat} {v : Value} {n : Nat} {xs : List Value} (h : w.ownsRow base e size v n xs) (hb : Below w.heap.size w w') : w'.ownsRow base e size v n xs := by
  obtain ⟨hl, h⟩ := h
  refine ⟨hl, ?_⟩
  rcases h with ⟨rfl, h0⟩ | ⟨g, cap, cur, rfl, hg, hh, hr⟩
  · exact .inl ⟨rfl, h0⟩
  · exact .inr ⟨g, cap, cur, rfl, hg, (hb.block g (lt_of_block hh)).trans hh, hr⟩
theorem ownsRow_mono {w : World} {base base' : Nat} {e : TypeId} {size : Nat} {v : Value} {n : Nat} {xs : List Value} (h : w.ownsRow base e size v n xs) (hb : base' ≤ base) : w.ownsRow base' e size v n xs := by
  obtain ⟨hl, h⟩ := h
  refine ⟨hl, ?_⟩
  rcases h with ⟨rfl, h0⟩ | ⟨g, cap, cur, rfl, hg, hh, hr⟩
  · exact .inl ⟨rfl, h0⟩
  · exact .inr ⟨g, cap, cur, rfl, Nat.le_trans hb hg, hh, hr⟩
/-- a slice of numbers that lies in memory from block 'base' on -/
def OwnInts (w : World) (base : Nat) (v : Value) (l : List Nat) : Prop := w.ownsRow base 3 1 v (castL l).length ((castL l).map (Value.int .i64))
theorem OwnInts.ints {w : World} {base : Nat} {v : Value} {l : List Nat} (h : OwnInts w base v l) : Ints w v (castL l) := ints_of_owns h
theorem castL_len (l : List Nat) : (castL l).length = l.length := by simp [castL]
theorem OwnInts.slice {w : World} {base : Nat} {v : Value} {l : List Nat} (h : OwnInts w base v l) : ∃ ao cap, v = .slice ao l.length cap := by
  rcases h.2 with ⟨rfl, h0⟩ | ⟨g, cap, cur, rfl, _⟩
  · rw [castL_len] at h0; exact ⟨none, 0, by rw [h0]⟩
  · rw [castL_len]; exact ⟨_, _, rfl⟩

theorem OwnInts.at {w : World} {base n cap : Nat} {ao : Option Addr} {l : List Nat} (h : OwnInts w base (.slice ao n cap) l) (hl : 0 < l.length) :
    ∃ g, ao = some ⟨g, 0, none⟩ ∧ g < w.heap.size ∧ ∀ j, j < l.length → w.cell? ⟨g, j, none⟩ = some (.int .i64 ((l.getD j 0 : Nat) : Int)) := by
  have h' : w.ownsRow base 3 1 (.slice ao n cap) (castL l).length ((castL l).map (Value.int .i64)) := h
  rcases h.2 with ⟨_, h0⟩ | ⟨g, cap', cur, e, hg, hh, _⟩
  · rw [castL_len] at h0; omega
  · injection e with e1 e2 e3
    subst e1 e2
    refine ⟨g, rfl, lt_of_block hh, fun j hj => ?_⟩
    rw [h'.cellAt j (by rw [castL_len]; omega)]
    simp [castL, List.getElem?_map, List.getElem?_eq_getElem hj, List.getD_eq_getElem?_getD]

theorem votes_plus (s : ByteArray) (node a : Nat) (w : World) (hs : s.size = 9) (hn : node < 7) (hok : ∀ k, k < 3 → okAt s k = true) (h : votes (blksTo s 3) 43 node = a) :
    Calls Try.prog 46 #[.string s, .int .u8 43, .int .i64 node] w fun e w' => e = .returned (.int .i64 a) ∧ Below w.heap.size w w' := by
  rw [← h]; exact votes_any s 43 node w hs (by omega) hn hok
theorem votes_minus (s : ByteArray) (node a : Nat) (w : World) (hs : s.size = 9) (hn : node < 7) (hok : ∀ k, k < 3 → okAt s k = true) (h : votes (blksTo s 3) 45 node = a) :
    Calls Try.prog 46 #[.string s, .int .u8 45, .int .i64 node] w fun e w' => e = .returned (.int .i64 a) ∧ Below w.heap.size w w' := by
  rw [← h]; exact votes_any s 45 node w hs (by omega) hn hok

set_option maxRecDepth 100000 in
set_option maxHeartbeats 2000000 in
theorem turned_any (s : ByteArray) (l : List Nat) (s0 base : Nat) (v : Value) (w : World) (hs : s.size = 9) (hok : ∀ k, k < 3 → okAt s k = true) (h0 : s0 < 128) (hl : l = listed s0)
    (hbase : base ≤ w.heap.size) (hv : OwnInts w base v l) :
    Calls Try.prog 28 #[v, .string s] w fun e w' => ∃ v', e = .returned v' ∧ OwnInts w' base v' (listed (countS (blksTo s 3) s0)) ∧ Below base w w' := by
  obtain ⟨i0, hi, hz0, hz1, hz2⟩ := info_parts Try.info3
  have HOK : Hid (∀ k, k < 3 → okAt s k = true) := hok
  clear hok
  go_enter Try.func28, Try.ntmps28
  go_wp2
  go_loopw [0, 5] (fun x i wr => ∃ (k : Nat) (L : List Nat), k ≤ 7 ∧ i = .int .i64 (k : Int) ∧ Walks7 L (countTo (blksTo s 3) s0 k) ∧ OwnInts wr base x L ∧ Below base w wr) (fun _ i _ => 7 - (intOf i).toNat)
  case atStart => exact ⟨0, l, Nat.zero_le _, rfl, by subst hl; exact Walks7.listed, hv, Below.refl _ _⟩
  case round =>
    obtain ⟨k, L, hk, rfl, hW, hown, hB⟩ := hrel
    have hlt0 := countTo_lt (bl := blksTo s 3) h0 k hk
    have hLl := hW.len
    by_cases hlt : k < 7
    · obtain ⟨sk, hsk⟩ : ∃ sk, countTo (blksTo s 3) s0 k = sk := ⟨_, rfl⟩
      obtain ⟨a, ha⟩ : ∃ a, votes (blksTo s 3) 43 k = a := ⟨_, rfl⟩
      obtain ⟨c, hc⟩ : ∃ c, votes (blksTo s 3) 45 k = c := ⟨_, rfl⟩
      have hstep : countTo (blksTo s 3) s0 (k + 1) = if 2 ≤ a then withS sk k else if 2 ≤ c ∧ sk.testBit k = true ∧ 4 < sizeS sk then withoutS sk k else sk := by
        rw [countTo, stepS, hsk, ha, hc]
      rw [hsk] at hW hlt0
      have hm := hW.mem hlt
      obtain ⟨b, hb⟩ : ∃ b, sk.testBit k = b := ⟨_, rfl⟩
      rw [hb] at hm
      have hm' : decide ((k : Int) ∈ castL L) = b := by rw [← hm]; simp only [mem_castL]
      have hmem : b = true ↔ k ∈ L := by rw [← hm]; simp
      have hsL := hW.2.2.2
      have HSK := hide hsk
      have HA := hide ha
      have HC := hide hc
      have HB := hide hb
      have HI := hown.ints
      have hl5 : (castL L).length ≤ 7 := by rw [castL_len]; exact hLl
      have hsz := hB.size
      obtain ⟨ao, cap, rfl⟩ := hown.slice
      rw [hb, ← hsL] at hstep
      clear hsk ha hc hb hm hsL
      by_cases h1 : 2 ≤ a
      · rw [if_pos h1] at hstep
        have HS := hide hstep
        clear hstep
        cases b with
        | false =>
          have hW' := hW.push hlt0 hlt (by rw [← hmem]; simp)
          rw [← HS.out] at hW'
          clear hmem
          have HW := hide hW'
          clear hW'
          go_wp2_with (go_at_call 27; refine (in_is false _ _ _ _ HI (by omega) hm').mono ?_; rintro e w' ⟨rfl, rfl⟩)
          refine (votes_plus s k a _ hs hlt HOK.out HA.out).mono ?_
          rintro e w1 ⟨rfl, hb1⟩
          go_wp2_with fail
          refine (votes_minus s k c _ hs hlt HOK.out HC.out).mono ?_
          rintro e w2 ⟨rfl, hb2⟩
          have hb3 : Below w'.heap.size w' w2 := hb1.trans (hb2.mono hb1.size)
          have hown2 : OwnInts w2 base (.slice ao L.length cap) L := ownsRow_below hown hb3
          have hsz3 := hb3.size
          clear hb1 hb2
          go_wp2_with (at_builtin; refine wpList_append_own _ rfl _ _ 45 rfl base 3 i0 (.int .i64 0) 1 8 Try.underlying45 hi hz0 hz1 hz2 rfl (by decide) _ _ _ rfl (World.ownsRow.alloc hown2 _) ⟨_, 0, none⟩ 1 1 [.int .i64 (k : Int)] rfl rfl (cell_one_new _ _ _) (by simp [Value.oneCell']) (by unfold maxLen; omega) (by omega) (by simp; omega) ?_; intro v' w1 hown' hgrow _)
          have R := push_ints (hB.trans (hb3.mono (by omega))) (by omega) hown2 hown' hgrow
          rw [← castL_snoc] at R
          clear hown' hgrow
          go_wp2
          go_roundw
          case rel => exact ⟨k + 1, L ++ [k], by omega, by go_num, HW.out, R.1, R.2⟩
          case measure => simp [intOf]; omega
        | true =>
          have hW' := hW.same hlt0 hlt (hmem.1 rfl)
          rw [← HS.out] at hW'
          clear hmem
          have HW := hide hW'
          clear hW'
          go_wp2_with (go_at_call 27; refine (in_is true _ _ _ _ HI (by omega) hm').mono ?_; rintro e w' ⟨rfl, rfl⟩)
          refine (votes_plus s k a _ hs hlt HOK.out HA.out).mono ?_
          rintro e w1 ⟨rfl, hb1⟩
          go_wp2_with fail
          refine (votes_minus s k c _ hs hlt HOK.out HC.out).mono ?_
          rintro e w2 ⟨rfl, hb2⟩
          have hb3 : Below w'.heap.size w' w2 := hb1.trans (hb2.mono hb1.size)
          have hown2 : OwnInts w2 base (.slice ao L.length cap) L := ownsRow_below hown hb3
          clear hb1 hb2
          go_wp2
          go_roundw
          case rel => exact ⟨k + 1, L, by omega, by go_num, HW.out, hown2, hB.trans (hb3.mono (by omega))⟩
          case measure => simp [intOf]; omega
      · rw [if_neg h1] at hstep
        by_cases h2 : 2 ≤ c ∧ b = true ∧ 4 < L.length
        · rw [if_pos h2] at hstep
          obtain ⟨h3, rfl, h4⟩ := h2
          have hW' := hW.drop hlt0 hlt (hmem.1 rfl)
          rw [← hstep] at hW'
          have HW := hide hW'
          clear hW hW' hstep hmem
          have h1B : decide (2 ≤ (a : Int)) = false := by simp; omega
          have h3B : decide (2 ≤ (c : Int)) = true := by simp; omega
          have h4B : decide (4 < (L.length : Int)) = true := by simp; omega
          obtain ⟨g, rfl, hg, hcell⟩ := hown.at (by omega)
          go_wp2_with (go_at_call 27; refine (in_is true _ _ _ _ HI (by omega) hm').mono ?_; rintro e w' ⟨rfl, rfl⟩)
          refine (votes_plus s k a _ hs hlt HOK.out HA.out).mono ?_
          rintro e w1 ⟨rfl, hb1⟩
          go_wp2_with fail
          refine (votes_minus s k c _ hs hlt HOK.out HC.out).mono ?_
          rintro e w2 ⟨rfl, hb2⟩
          have hb3 : Below w'.heap.size w' w2 := hb1.trans (hb2.mono hb1.size)
          have hsz3 := hb3.size
          have HCELL := hide hcell
          clear hb1 hb2 hcell HI hown
          go_wp2
          go_loopw [9, 10] (fun x i wr' => ∃ (j : Nat), j ≤ L.length ∧ i = .int .i64 (j : Int) ∧ OwnInts wr' w2.heap.size x (without (L.take j) k) ∧ Below w2.heap.size w2 wr') (fun _ i _ => L.length - (intOf i).toNat)
          case atStart => exact ⟨0, Nat.zero_le _, rfl, World.ownsRow_nil _ _ _ _, Below.refl _ _⟩
          case round =>
            obtain ⟨j, hj, rfl, hown4, hB4⟩ := hrel
            have hsz4 := hB4.size
            have hlw : (castL (without (L.take j) k)).length ≤ 7 := by
              rw [castL_len]
              refine Nat.le_trans (List.length_filter_le _ _) ?_
              rw [List.length_take]; omega
            by_cases hjl : j < L.length
            · have hcj := HCELL.out j hjl
              rw [← hb3.cell (p := ⟨g, j, none⟩) hg, ← hB4.cell (p := ⟨g, j, none⟩) (show g < w2.heap.size by omega)] at hcj
              have hsn := without_snoc L j k hjl
              have hgd : L.getD j 0 = L[j] := by simp [List.getD_eq_getElem?_getD, hjl]
              rw [hgd] at hcj
              obtain ⟨x, hx⟩ : ∃ x, L[j] = x := ⟨_, rfl⟩
              rw [hx] at hcj hsn
              clear hx hgd
              by_cases e : x = k
              · rw [if_pos e] at hsn
                have HSN := hide hsn
                have hxB : ((x : Int) != (k : Int)) = false := by simp [e]
                clear hsn e
                go_wp2
                go_roundw
                case rel => exact ⟨j + 1, by omega, by go_num, by rw [HSN.out]; exact hown4, hB4⟩
                case measure => simp [intOf]; omega
              · rw [if_neg e] at hsn
                have HSN := hide hsn
                have hxB : ((x : Int) != (k : Int)) = true := by simp; omega
                clear hsn e
                go_wp2_with (at_builtin; refine wpList_append_own _ rfl _ _ 45 rfl w2.heap.size 3 i0 (.int .i64 0) 1 8 Try.underlying45 hi hz0 hz1 hz2 rfl (by decide) _ _ _ rfl (World.ownsRow.alloc hown4 _) ⟨_, 0, none⟩ 1 1 [.int .i64 (x : Int)] rfl rfl (cell_one_new _ _ _) (by simp [Value.oneCell']) (by unfold maxLen; omega) (by omega) (by simp; omega) ?_; intro v' w1 hown' hgrow _)
                have R := push_ints hB4 hsz4 hown4 hown' hgrow
                rw [← castL_snoc, ← HSN.out] at R
                clear hown' hgrow
                go_wp2
                go_roundw
                case rel => exact ⟨j + 1, by omega, by go_num, R.1, R.2⟩
                case measure => simp [intOf]; omega
            · have HT : Hid (L.take j = L) := List.take_of_length_le (by omega)
              go_wp2
              go_roundw
              case rel => exact ⟨k + 1, without L k, by omega, by go_num, HW.out, by rw [HT.out] at hown4; exact ownsRow_mono hown4 (by omega), (hB.trans (hb3.mono (by omega))).trans (hB4.mono (by omega))⟩
              case measure => simp [intOf]; omega
        · rw [if_neg h2] at hstep
          rw [← hstep] at hW
          have HW := hide hW
          clear hW hstep hmem
          by_cases h3 : 2 ≤ c
          · cases b with
            | false =>
              clear h2
              go_wp2_with (go_at_call 27; refine (in_is false _ _ _ _ HI (by omega) hm').mono ?_; rintro e w' ⟨rfl, rfl⟩)
              refine (votes_plus s k a _ hs hlt HOK.out HA.out).mono ?_
              rintro e w1 ⟨rfl, hb1⟩
              go_wp2_with fail
              refine (votes_minus s k c _ hs hlt HOK.out HC.out).mono ?_
              rintro e w2 ⟨rfl, hb2⟩
              have hb3 : Below w'.heap.size w' w2 := hb1.trans (hb2.mono hb1.size)
              have hown2 : OwnInts w2 base (.slice ao L.length cap) L := ownsRow_below hown hb3
              clear hb1 hb2
              go_wp2
              go_roundw
              case rel => exact ⟨k + 1, L, by omega, by go_num, HW.out, hown2, hB.trans (hb3.mono (by omega))⟩
              case measure => simp [intOf]; omega
            | true =>
              have h4 : L.length ≤ 4 := by
                apply Nat.le_of_not_lt
                intro h
                exact h2 ⟨h3, rfl, h⟩
              clear h2
              go_wp2_with (go_at_call 27; refine (in_is true _ _ _ _ HI (by omega) hm').mono ?_; rintro e w' ⟨rfl, rfl⟩)
              refine (votes_plus s k a _ hs hlt HOK.out HA.out).mono ?_
              rintro e w1 ⟨rfl, hb1⟩
              go_wp2_with fail
              refine (votes_minus s k c _ hs hlt HOK.out HC.out).mono ?_
              rintro e w2 ⟨rfl, hb2⟩
              have hb3 : Below w'.heap.size w' w2 := hb1.trans (hb2.mono hb1.size)
              have hown2 : OwnInts w2 base (.slice ao L.length cap) L := ownsRow_below hown hb3
              clear hb1 hb2
              go_wp2
              go_roundw
              case rel => exact ⟨k + 1, L, by omega, by go_num, HW.out, hown2, hB.trans (hb3.mono (by omega))⟩
              case measure => simp [intOf]; omega
          · clear h2
            go_wp2_with (go_at_call 27; refine (in_is b _ _ _ _ HI (by omega) hm').mono ?_; rintro e w' ⟨rfl, rfl⟩)
            refine (votes_plus s k a _ hs hlt HOK.out HA.out).mono ?_
            rintro e w1 ⟨rfl, hb1⟩
            go_wp2_with fail
            refine (votes_minus s k c _ hs hlt HOK.out HC.out).mono ?_
            rintro e w2 ⟨rfl, hb2⟩
            have hb3 : Below w'.heap.size w' w2 := hb1.trans (hb2.mono hb1.size)
            have hown2 : OwnInts w2 base (.slice ao L.length cap) L := ownsRow_below hown hb3
            clear hb1 hb2
            go_wp2
            go_roundw
            case rel => exact ⟨k + 1, L, by omega, by go_num, HW.out, hown2, hB.trans (hb3.mono (by omega))⟩
            case measure => simp [intOf]; omega
    · obtain ⟨sf, hsf⟩ : ∃ sf, countTo (blksTo s 3) s0 k = sf := ⟨_, rfl⟩
      have HSF : Hid (countS (blksTo s 3) s0 = sf) := by
        have hk7 : k = 7 := by omega
        rw [hk7] at hsf
        exact hsf
      rw [hsf] at hW hlt0
      clear hsf
      have hsz := hB.size
      go_wp2
      go_loopw [11, 12] (fun x i wr' => ∃ (j : Nat), j ≤ 7 ∧ i = .int .i64 (j : Int) ∧ OwnInts wr' wr.heap.size x (listedTo sf j) ∧ Below wr.heap.size wr wr') (fun _ i _ => 7 - (intOf i).toNat)
      case atStart => exact ⟨0, Nat.zero_le _, rfl, World.ownsRow_nil _ _ _ _, Below.refl _ _⟩
      case round =>
        obtain ⟨j, hj, rfl, hown3, hB3⟩ := hrel
        have hi3 := (show OwnInts _ base _ L from ownsRow_below hown hB3).ints
        have hsz3 := hB3.size
        have hl3 := listedTo_len sf j
        have hl4 : (castL (listedTo sf j)).length ≤ j := by rw [castL_len]; exact hl3
        have hl5 : (castL L).length ≤ 7 := by rw [castL_len]; exact hLl
        by_cases hlt : j < 7
        · have hm := hW.mem hlt
          have hm' : decide ((j : Int) ∈ castL L) = sf.testBit j := by rw [← hm]; simp only [mem_castL]
          cases hb : sf.testBit j with
          | true =>
            rw [hb] at hm'
            have HT : Hid (listedTo sf (j + 1) = listedTo sf j ++ [j]) := by rw [listedTo_succ, if_pos hb]; rfl
            clear hm hb
            go_wp2_with (first
              | (go_at_call 27; refine (in_is true _ _ _ _ hi3 (by omega) hm').mono ?_; rintro e w' ⟨rfl, rfl⟩)
              | (at_builtin; refine wpList_append_own _ rfl _ _ 45 rfl wr.heap.size 3 i0 (.int .i64 0) 1 8 Try.underlying45 hi hz0 hz1 hz2 rfl (by decide) _ _ _ rfl (World.ownsRow.alloc hown3 _) ⟨_, 0, none⟩ 1 1 [.int .i64 (j : Int)] rfl rfl (cell_one_new _ _ _) (by simp [Value.oneCell']) (by unfold maxLen; omega) (by omega) (by simp; omega) ?_; intro v' w1 hown' hgrow _))
            have R := push_ints hB3 hsz3 hown3 hown' hgrow
            rw [← castL_snoc, ← HT.out] at R
            clear hown' hgrow
            go_wp2
            go_roundw
            case rel => exact ⟨j + 1, by omega, by go_num, R.1, R.2⟩
            case measure => simp [intOf]; omega
          | false =>
            rw [hb] at hm'
            have HT : Hid (listedTo sf (j + 1) = listedTo sf j) := by rw [listedTo_succ, if_neg (by simp [hb])]; rfl
            clear hm hb
            go_wp2_with (go_at_call 27; refine (in_is false _ _ _ _ hi3 (by omega) hm').mono ?_; rintro e w' ⟨rfl, rfl⟩)
            go_roundw
            case rel => exact ⟨j + 1, by omega, by go_num, by rw [HT.out]; exact hown3, hB3⟩
            case measure => simp [intOf]; omega
        · obtain rfl : j = 7 := by omega
          go_wp2
          go_ret
          refine ⟨_, rfl, ?_, hB.trans (hB3.mono (by omega))⟩
          rw [HSF.out]
          exact ownsRow_mono hown3 (by omega)
end Go.Proofs.Ytlkhmldceekdaaa
