/- The small functions of package set and chains: what each call does. -/
import Derived.Test.YtgeecddmificeaaProg
import Derived.Test.YtgeecddmificeaaSets
import Derived.WalkKit
import Derived.WalkSpells
import Derived.Maps.AppendAt
namespace Go.Proofs.Ytgeecddmificeaa
open Go.RowKit
set_option linter.unusedVariables false

theorem hide {p : Prop} (h : p) : Hid p := h
theorem ret_int {k : IntKind} {a b : Int} (h : a = b) : Ending.returned (.int k a) = .returned (.int k b) := by rw [h]
theorem ret_bool {a b : Bool} (h : a = b) : Ending.returned (.bool a) = .returned (.bool b) := by rw [h]

set_option maxHeartbeats 400000 in
theorem isNode_any (n : Int) (w : World) :
    Calls Try.prog 55 #[.int .i64 n] w fun e w' => e = .returned (.bool (decide (0 ≤ n) && decide (n < 7))) ∧ w' = w := by
  go_enter Try.func55, Try.ntmps55
  go_wp2
  all_goals go_ret
  · exact ⟨by simp [*], rfl⟩
  · exact ⟨ret_bool (by rw [decide_eq_false (by omega)]; rfl), rfl⟩

set_option maxHeartbeats 400000 in
theorem digit_any (c : Int) (w : World) (h0 : 0 ≤ c) (h1 : c < 256) :
    Calls Try.prog 54 #[.int .u8 c] w fun e w' => e = .returned (.int .i64 (c - 48)) ∧ w' = w := by
  go_enter Try.func54, Try.ntmps54
  go_wp2
  go_ret
  exact ⟨rfl, rfl⟩


set_option maxHeartbeats 400000 in
theorem size_fin (s : Fin 128) (w : World) :
    Calls Try.prog 23 #[.int .i64 (s.1 : Int)] w fun e w' => e = .returned (.int .i64 (sizeS s.1)) ∧ w' = w := by
  go_enter Try.func23, Try.ntmps23
  go_wp2
  go_ret
  refine ⟨ret_int ?_, rfl⟩
  clear w
  revert s
  decide +kernel
theorem size_any (s : Nat) (h : s < 128) (w : World) :
    Calls Try.prog 23 #[.int .i64 (s : Int)] w fun e w' => e = .returned (.int .i64 (sizeS s)) ∧ w' = w :=
  size_fin ⟨s, h⟩ w

set_option maxHeartbeats 400000 in
theorem first_fin (s : Fin 8) (w : World) :
    Calls Try.prog 38 #[.int .i64 (s.1 : Int)] w fun e w' => e = .returned (.int .i64 (firstS s.1)) ∧ w' = w := by
  go_enter Try.func38, Try.ntmps38
  go_wp2
  go_ret
  refine ⟨ret_int ?_, rfl⟩
  clear w
  revert s
  decide +kernel
theorem first_any (s : Nat) (h : s < 8) (w : World) :
    Calls Try.prog 38 #[.int .i64 (s : Int)] w fun e w' => e = .returned (.int .i64 (firstS s)) ∧ w' = w :=
  first_fin ⟨s, h⟩ w

set_option maxHeartbeats 400000 in
theorem with_fin (s : Fin 128) (n : Fin 7) (w : World) :
    Calls Try.prog 57 #[.int .i64 (s.1 : Int), .int .i64 (n.1 : Int)] w fun e w' => e = .returned (.int .i64 (withS s.1 n.1)) ∧ w' = w := by
  go_enter Try.func57, Try.ntmps57
  go_wp2
  go_ret
  refine ⟨ret_int ?_, rfl⟩
  clear w
  revert s n
  decide +kernel
theorem with_any (s n : Nat) (hs : s < 128) (hn : n < 7) (w : World) :
    Calls Try.prog 57 #[.int .i64 (s : Int), .int .i64 (n : Int)] w fun e w' => e = .returned (.int .i64 (withS s n)) ∧ w' = w :=
  with_fin ⟨s, hs⟩ ⟨n, hn⟩ w
set_option maxHeartbeats 400000 in
theorem without_fin (s : Fin 128) (n : Fin 7) (w : World) :
    Calls Try.prog 58 #[.int .i64 (s.1 : Int), .int .i64 (n.1 : Int)] w fun e w' => e = .returned (.int .i64 (withoutS s.1 n.1)) ∧ w' = w := by
  go_enter Try.func58, Try.ntmps58
  go_wp2
  go_ret
  refine ⟨ret_int ?_, rfl⟩
  clear w
  revert s n
  decide +kernel
theorem without_any (s n : Nat) (hs : s < 128) (hn : n < 7) (w : World) :
    Calls Try.prog 58 #[.int .i64 (s : Int), .int .i64 (n : Int)] w fun e w' => e = .returned (.int .i64 (withoutS s n)) ∧ w' = w :=
  without_fin ⟨s, hs⟩ ⟨n, hn⟩ w
set_option maxHeartbeats 400000 in
theorem has_fin (s : Fin 128) (n : Int) (w : World) :
    Calls Try.prog 41 #[.int .i64 (s.1 : Int), .int .i64 n] w fun e w' => e = .returned (.bool (hasS s.1 n)) ∧ w' = w := by
  go_enter Try.func41, Try.ntmps41
  go_wp2_with (go_at_call 55; refine (isNode_any _ _).mono ?_; rintro e w' ⟨rfl, rfl⟩)
  all_goals go_ret
  · rename_i h
    refine ⟨ret_bool ?_, rfl⟩
    obtain ⟨h0, h1⟩ := h
    obtain ⟨n, rfl⟩ := Int.eq_ofNat_of_zero_le h0
    have hn : n < 7 := by omega
    obtain ⟨m, rfl⟩ : ∃ m : Fin 7, n = m.1 := ⟨⟨n, hn⟩, rfl⟩
    clear w' h0 h1 hn
    revert s m
    decide +kernel
  · rename_i h
    refine ⟨ret_bool ?_, rfl⟩
    unfold hasS
    by_cases h0 : 0 ≤ n
    · rw [decide_eq_false (show ¬ n < 7 by omega)]; simp
    · rw [decide_eq_false h0]; simp
theorem has_any (s : Nat) (hs : s < 128) (n : Int) (w : World) :
    Calls Try.prog 41 #[.int .i64 (s : Int), .int .i64 n] w fun e w' => e = .returned (.bool (hasS s n)) ∧ w' = w :=
  has_fin ⟨s, hs⟩ n w
set_option maxHeartbeats 400000 in
theorem blocks_any (s : ByteArray) (w : World) (hs : s.size ≤ maxLen) :
    Calls Try.prog 37 #[.string s] w fun e w' => e = .returned (.int .i64 ((s.size / 3 : Nat) : Int)) ∧ w' = w := by
  unfold maxLen at hs
  go_enter Try.func37, Try.ntmps37
  go_wp2
  go_ret
  exact ⟨by first | rfl | simp, rfl⟩
set_option maxHeartbeats 400000 in
theorem nodes_any (s : Int) (w : World) :
    Calls Try.prog 24 #[.int .i64 s] w fun e w' => e = .returned (.func (.func 44) #[] #[.pointer (some ⟨w.heap.size, 0, none⟩)]) ∧ w' = w.alloc (.cells #[.int .i64 s] 66) := by
  go_enter Try.func24, Try.ntmps24
  go_wp2
  go_ret
  exact ⟨rfl, rfl⟩
set_option maxHeartbeats 400000 in
theorem entries_any (s : ByteArray) (w : World) :
    Calls Try.prog 39 #[.string s] w fun e w' => e = .returned (.func (.func 53) #[] #[.pointer (some ⟨w.heap.size, 0, none⟩)]) ∧ w' = w.alloc (.cells #[.string s] 9) := by
  go_enter Try.func39, Try.ntmps39
  go_wp2
  go_ret
  exact ⟨rfl, rfl⟩
end Go.Proofs.Ytgeecddmificeaa
