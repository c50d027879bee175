/- chains.read. -/
import Derived.Test.YtgeecddmificeaaCount
import Derived.Deep.RegionHeld3
import Derived.Deep.RegionWith
import Derived.Deep.CutRange
import Derived.Deep.DrawnRows
namespace Go.Proofs.Ytgeecddmificeaa
open Go.RowKit Go.Shelf
attribute [local go_sem ↓] Go.wp_at_zero Go.wp_at_succ
set_option linter.unusedVariables false

theorem digit_byte (c : UInt8) (w : World) :
    Calls Try.prog 54 #[.int .u8 (c.toNat : Int)] w fun e w' => e = .returned (.int .i64 ((c.toNat : Int) - 48)) ∧ w' = w :=
  digit_any _ w (by omega) (by have := c.toNat_lt; omega)

set_option maxRecDepth 100000 in
set_option maxHeartbeats 1000000 in
theorem read_any (t : ByteArray) (w : World) (hs : t.size = 3) :
    Calls Try.prog 40 #[.string t] w fun e w' => ∃ (m sg ab : Int) (ok : Bool), e = .returned (.tuple #[.agg #[.int .i64 m, .int .u8 sg, .int .i64 ab], .bool ok]) ∧ ok = blkOk (byt t 0) (byt t 1) (byt t 2) ∧
      (ok = true → m = (byt t 0 : Int) - 48 ∧ sg = (byt t 1 : Int) ∧ ab = (byt t 2 : Int) - 48) ∧ Below w.heap.size w w' := by
  have h0 : 0 < t.size := by omega
  have h1 : 1 < t.size := by omega
  have h2 : 2 < t.size := by omega
  have HS := hide hs
  have i0 : (0 : Int) < (t.size : Int) := by omega
  have i1 : (1 : Int) < (t.size : Int) := by omega
  have i2 : (2 : Int) < (t.size : Int) := by omega
  clear hs
  go_enter Try.func40, Try.ntmps40
  go_upto_region 1 with fail
  go_cut [4] from 5 to 13 (fun p wx => p = .pointer (some ⟨w.heap.size + 1, 0, none⟩) ∧ wx = ((w.alloc (.cells #[.int .i64 0, .int .u8 0, .int .i64 0] 88)).alloc (.cells #[.int .i64 ((t[0].toNat : Int) - 48), .int .u8 (t[1].toNat : Int), .int .i64 ((t[2].toNat : Int) - 48)] 88)).drew)
  case first =>
    refine wp_region_any (by kernel_rfl) ?_
    try (change wpAny _ _ _ _ _ _ _ (World.drew _))
    refine wpAny_take (i := 0) (v := ?_) rfl (by kernel_rfl) (by kernel_rfl) (by kernel_rfl) (fun _ _ _ h => h) (Or.inl ⟨by rfl, ?_⟩) ?_
    rotate_left
    · intro w
      go_simp
      try rfl
    refine wpAny_take (i := 1) (v := ?_) rfl (by kernel_rfl) (by kernel_rfl) (by kernel_rfl) (fun _ _ _ h => h) (Or.inl ⟨by rfl, ?_⟩) ?_
    rotate_left
    · intro w
      go_simp
      try rfl
    refine wpAny_take (i := 3) (v := ?_) rfl (by kernel_rfl) (by kernel_rfl) (by kernel_rfl) (fun _ _ _ h => h) (Or.inl ⟨by rfl, ?_⟩) ?_
    rotate_left
    · intro w
      go_simp
      try rfl
    refine wpAny_take (i := 4) (v := ?_) rfl (by kernel_rfl) (by kernel_rfl) (by kernel_rfl) (fun _ _ _ h => h) (Or.inl ⟨by rfl, ?_⟩) ?_
    rotate_left
    · intro w
      go_simp
      try rfl
    refine wpAny_take (i := 5) (v := ?_) rfl (by kernel_rfl) (by kernel_rfl) (by kernel_rfl) (fun _ _ _ h => h) (Or.inl ⟨by rfl, ?_⟩) ?_
    rotate_left
    · intro w
      go_simp
      try rfl
    refine wpAny_take (i := 6) (v := ?_) rfl (by kernel_rfl) (by kernel_rfl) (by kernel_rfl) (fun _ _ _ h => h) (Or.inl ⟨by rfl, ?_⟩) ?_
    rotate_left
    · intro w
      go_simp
      try rfl
    refine wpAny_ready (rs := [2, 9]) (by kernel_rfl) (by simp) ?_
    refine (AllReady.cons rfl (fun K hK => ?_) (AllReady.cons rfl (fun K hK => ?_) AllReady.nil))
    · skip
      go_simp
      go_wp2_with (go_at_call 54; refine (digit_byte _ _).mono ?_; rintro e w' ⟨rfl, rfl⟩)
      refine wpAny_ready (rs := [7, 9]) (by kernel_rfl) (by simp) ?_
      refine (AllReady.cons rfl (fun K hK => ?_) (AllReady.cons rfl (fun K hK => ?_) AllReady.nil))
      · skip
        go_simp
        go_wp2_with (go_at_call 54; refine (digit_byte _ _).mono ?_; rintro e w' ⟨rfl, rfl⟩)
        refine wpAny_take (i := 8) (v := ?_) rfl (by kernel_rfl) (by kernel_rfl) (by kernel_rfl) (fun _ _ _ h => h) (Or.inl ⟨by rfl, ?_⟩) ?_
        rotate_left
        · intro w
          go_simp
          try rfl
        refine wpAny_ready (rs := [9]) (by kernel_rfl) (by simp) ?_
        refine (AllReady.cons rfl (fun K hK => ?_) AllReady.nil)
        go_simp
        refine hK _ _ ?_
        clear hK K
        refine wpAny_ready (rs := [10]) (by kernel_rfl) (by simp) ?_
        refine (AllReady.cons rfl (fun K hK => ?_) AllReady.nil)
        go_simp
        refine hK _ _ ?_
        clear hK K
        refine wpAny_done (by kernel_rfl) ?_ _
        go_wp2_with fail
        go_meet
        exact ⟨rfl, rfl⟩
      · skip
        go_simp
        refine hK _ _ ?_
        clear hK K
        refine wpAny_ready (rs := [7]) (by kernel_rfl) (by simp) ?_
        refine (AllReady.cons rfl (fun K hK => ?_) AllReady.nil)
        go_simp
        go_wp2_with (go_at_call 54; refine (digit_byte _ _).mono ?_; rintro e w' ⟨rfl, rfl⟩)
        refine wpAny_take (i := 8) (v := ?_) rfl (by kernel_rfl) (by kernel_rfl) (by kernel_rfl) (fun _ _ _ h => h) (Or.inl ⟨by rfl, ?_⟩) ?_
        rotate_left
        · intro w
          go_simp
          try rfl
        refine wpAny_ready (rs := [10]) (by kernel_rfl) (by simp) ?_
        refine (AllReady.cons rfl (fun K hK => ?_) AllReady.nil)
        go_simp
        refine hK _ _ ?_
        clear hK K
        refine wpAny_done (by kernel_rfl) ?_ _
        go_wp2_with fail
        go_meet
        exact ⟨rfl, rfl⟩
    · skip
      go_simp
      refine hK _ _ ?_
      clear hK K
      refine wpAny_ready (rs := [2]) (by kernel_rfl) (by simp) ?_
      refine (AllReady.cons rfl (fun K hK => ?_) AllReady.nil)
      go_simp
      go_wp2_with (go_at_call 54; refine (digit_byte _ _).mono ?_; rintro e w' ⟨rfl, rfl⟩)
      refine wpAny_ready (rs := [7]) (by kernel_rfl) (by simp) ?_
      refine (AllReady.cons rfl (fun K hK => ?_) AllReady.nil)
      go_simp
      go_wp2_with (go_at_call 54; refine (digit_byte _ _).mono ?_; rintro e w' ⟨rfl, rfl⟩)
      refine wpAny_take (i := 8) (v := ?_) rfl (by kernel_rfl) (by kernel_rfl) (by kernel_rfl) (fun _ _ _ h => h) (Or.inl ⟨by rfl, ?_⟩) ?_
      rotate_left
      · intro w
        go_simp
        try rfl
      refine wpAny_ready (rs := [10]) (by kernel_rfl) (by simp) ?_
      refine (AllReady.cons rfl (fun K hK => ?_) AllReady.nil)
      go_simp
      refine hK _ _ ?_
      clear hK K
      refine wpAny_done (by kernel_rfl) ?_ _
      go_wp2_with fail
      go_meet
      exact ⟨rfl, rfl⟩
  case rest =>
    obtain ⟨rfl, rfl⟩ := hcut
    go_wp2_with (go_at_call 55; refine (isNode_any _ _).mono ?_; rintro e w' ⟨rfl, rfl⟩)
    · rename_i hn
      refine bodyPost_ret (v := .tuple #[.agg #[.int .i64 0, .int .u8 0, .int .i64 0], .bool false]) (by simp [results, Try.results40, go_sem]) rfl ⟨0, 0, 0, false, rfl, ?_, fun h => (by cases h), ?_⟩
      · rw [byt_eq t 0 h0] at hn
        rw [Bool.eq_iff_iff, blkOk_iff]
        simp at hn ⊢
        omega
      · exact ((((Below.refl _ w).alloc (Nat.le_refl _) _).alloc (by simp) _).drew).trans (by first | exact Below.refl _ _ | exact (Below.refl _ _).setCell (Nat.le_refl _) _)
    · go_region
      all_goals go_wp2
      all_goals
        refine bodyPost_ret (v := .tuple #[.agg #[.int .i64 ((t[0].toNat : Int) - 48), .int .u8 (t[1].toNat : Int), .int .i64 ((t[2].toNat : Int) - 48)], .bool (((t[2].toNat : Int) - 48) == 0)]) (by simp [results, Try.results40, go_sem]) rfl ⟨_, _, _, _, rfl, ?_, fun _ => ⟨by rw [byt_eq t 0 h0], by rw [byt_eq t 1 h1], by rw [byt_eq t 2 h2]⟩, ?_⟩
        · simp only [byt_eq t 0 h0, byt_eq t 1 h1, byt_eq t 2 h2] at *
          rw [Bool.eq_iff_iff, blkOk_iff]
          simp only [Bool.not_eq_eq_eq_not, Bool.not_false, decide_eq_true_eq, beq_iff_eq] at *
          omega
        · exact ((((Below.refl _ w).alloc (Nat.le_refl _) _).alloc (by simp) _).drew).drew
    · go_region_with (go_at_call 55; refine (isNode_any _ _).mono ?_; rintro e w' ⟨rfl, rfl⟩)
      all_goals go_wp2
      all_goals
        refine bodyPost_ret (v := .tuple #[.agg #[.int .i64 ((t[0].toNat : Int) - 48), .int .u8 (t[1].toNat : Int), .int .i64 ((t[2].toNat : Int) - 48)], .bool (decide (0 ≤ ((t[2].toNat : Int) - 48)) && decide (((t[2].toNat : Int) - 48) < 7))]) (by simp [results, Try.results40, go_sem]) rfl ⟨_, _, _, _, rfl, ?_, fun _ => ⟨by rw [byt_eq t 0 h0], by rw [byt_eq t 1 h1], by rw [byt_eq t 2 h2]⟩, ?_⟩
        · simp only [byt_eq t 0 h0, byt_eq t 1 h1, byt_eq t 2 h2] at *
          rw [Bool.eq_iff_iff, blkOk_iff]
          simp only [Bool.and_eq_true, Bool.not_eq_eq_eq_not, Bool.not_false, decide_eq_true_eq, beq_iff_eq, beq_eq_false_iff_ne, ne_eq] at *
          omega
        · exact ((((Below.refl _ w).alloc (Nat.le_refl _) _).alloc (by simp) _).drew).drew
    · go_region_with (go_at_call 55; refine (isNode_any _ _).mono ?_; rintro e w' ⟨rfl, rfl⟩)
      all_goals go_wp2
      all_goals
        refine bodyPost_ret (v := .tuple #[.agg #[.int .i64 ((t[0].toNat : Int) - 48), .int .u8 (t[1].toNat : Int), .int .i64 ((t[2].toNat : Int) - 48)], .bool (decide (0 ≤ ((t[2].toNat : Int) - 48)) && decide (((t[2].toNat : Int) - 48) < 7))]) (by simp [results, Try.results40, go_sem]) rfl ⟨_, _, _, _, rfl, ?_, fun _ => ⟨by rw [byt_eq t 0 h0], by rw [byt_eq t 1 h1], by rw [byt_eq t 2 h2]⟩, ?_⟩
        · simp only [byt_eq t 0 h0, byt_eq t 1 h1, byt_eq t 2 h2] at *
          rw [Bool.eq_iff_iff, blkOk_iff]
          simp only [Bool.and_eq_true, Bool.not_eq_eq_eq_not, Bool.not_false, decide_eq_true_eq, beq_iff_eq, beq_eq_false_iff_ne, ne_eq] at *
          omega
        · exact ((((Below.refl _ w).alloc (Nat.le_refl _) _).alloc (by simp) _).drew).drew
    · refine bodyPost_ret (v := .tuple #[.agg #[.int .i64 0, .int .u8 0, .int .i64 0], .bool false]) (by simp [results, Try.results40, go_sem]) rfl ⟨0, 0, 0, false, rfl, ?_, fun h => (by cases h), ?_⟩
      · simp only [byt_eq t 0 h0, byt_eq t 1 h1] at *
        rw [Bool.eq_iff_iff, blkOk_iff]
        simp only [Bool.not_eq_eq_eq_not, Bool.not_false, decide_eq_true_eq, beq_eq_false_iff_ne, ne_eq, Bool.false_eq_true, false_iff] at *
        omega
      · exact ((((Below.refl _ w).alloc (Nat.le_refl _) _).alloc (by simp) _).drew).trans (by first | exact Below.refl _ _ | exact (Below.refl _ _).setCell (Nat.le_refl _) _)
end Go.Proofs.Ytgeecddmificeaa
