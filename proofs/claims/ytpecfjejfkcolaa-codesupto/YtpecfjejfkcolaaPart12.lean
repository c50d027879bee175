import Derived.Test.YtpecfjejfkcolaaPart11
import Derived.Deep.RegionHeld3
import Derived.Deep.RegionWith
import Derived.Deep.CutRange
import Derived.Deep.DrawnRows
/- chains.read. -/
namespace Go.Proofs.Ytpecfjejfkcolaa
open Go.RowKit Go.Shelf
attribute [local go_sem] Go.wp_at_zero Go.wp_at_succ
set_option linter.unusedVariables false

theorem digit_byte (c : UInt8) (w : World) :
    Calls Try.prog 54 #[.int .u8 (c.toNat : Int)] w fun e w' => e = .returned (.int .i64 ((c.toNat : Int) - 48)) ∧ w' = w :=
  digit_any _ w (by omega) (by have := c.toNat_lt; omega)

set_option maxRecDepth 100000 in
set_option maxHeartbeats 1000000 in
theorem read_any (t : ByteArray) (w : World) (hs : t.size = 3) :
    Calls Try.prog 40 #[.string t] w fun e w' => ∃ (m sg ab : Int) (ok : Bool), e = .returned (.tuple #[.agg #[.int .i64 m, .int .u8 sg, .int .i64 ab], .bool ok]) ∧ ok = blkOk (byt t 0) (byt t 1) (byt t 2) ∧
      (ok = true → m = (byt t 0 : Int) - 48 ∧ sg = (byt t 1 : Int) ∧ ab = (byt t 2 : Int) - 48) ∧ Below w.heap.size w w' := by
  have h0 : 0 < t.size := by omega
  have h1 : 1 < t.size := by omega
  have h2 : 2 < t.size := by omega
  have HS := hide hs
  have i0 : (0 : Int) < (t.size : Int) := by omega
  have i1 : (1 : Int) < (t.size : Int) := by omega
  have i2 : (2 : Int) < (t.size : Int) := by omega
  clear hs
  go_enter Try.func40, Try.ntmps40
  go_upto_region 1 with fail
  go_cut [4] from 5 to 13 (fun p wx => p = .pointer (some ⟨w.heap.size + 1, 0, none⟩) ∧ wx = ((w.alloc (.cells #[.int .i64 0, .int .u8 0, .int .i64 0] 88)).alloc (.cells #[.int .i64 ((t[0].toNat : Int) - 48), .int .u8 (t[1].toNat : Int), .int .i64 ((t[2].toNat : Int) - 48)] 88)).drew)
  case first =>
    refine wp_region_any (by kernel_rfl) ?_
    try (change wpAny _ _ _ _ _ _ _ (World.drew _))
    refine wpAny_take (i := 0) (v := ?_) rfl (by kernel_rfl) (by kernel_rfl) (by kernel_rfl) (fun _ _ _ h => h) (Or.inl ⟨by rfl, ?_⟩) ?_
    rotate_left
    · intro w
      go_simp
      try rfl
    refine wpAny_take (i := 1) (v := ?_) rfl (by kernel_rfl) (by kernel_rfl) (by kernel_rfl) (fun _ _ _ h => h) (Or.inl ⟨by rfl, ?_⟩) ?_
    rotate_left
    · intro w
      go_simp
      try rfl
    refine wpAny_take (i := 3) (v := ?_) rfl (by kernel_rfl) (by kernel_rfl) (by kernel_rfl) (fun _ _ _ h => h) (Or.inl ⟨by rfl, ?_⟩) ?_
    rotate_left
    · intro w
      go_simp
      try rfl
    refine wpAny_take (i := 4) (v := ?_) rfl (by kernel_rfl) (by kernel_rfl) (by kernel_rfl) (fun _ _ _ h => h) (Or.inl ⟨by rfl, ?_⟩) ?_
    rotate_left
    · intro w
      go_simp
      try rfl
    refine wpAny_take (i := 5) (v := ?_) rfl (by kernel_rfl) (by kernel_rfl) (by kernel_rfl) (fun _ _ _ h => h) (Or.inl ⟨by rfl, ?_⟩) ?_
    rotate_left
    · intro w
      go_simp
      try rfl
    refine wpAny_take (i := 6) (v := ?_) rfl (by kernel_rfl) (by kernel_rfl) (by kernel_rfl) (fun _ _ _ h => h) (Or.inl ⟨by rfl, ?_⟩) ?_
    rotate_left
    · intro w
      go_simp
      try rfl
    refine wpAny_ready (rs := [2, 9]) (by kernel_rfl) (by simp) ?_
    refine (AllReady.cons rfl (fun K hK => ?_) (AllReady.cons rfl (fun K hK => ?_) AllReady.nil))
    · skip
      go_simp
      go_wp2_with (go_at_call 54; refine (digit_byte _ _).mono ?_; rintro e w' ⟨rfl, rfl⟩)
      refine wpAny_ready (rs := [7, 9]) (by kernel_rfl) (by simp) ?_
      refine (AllReady.cons rfl (fun K hK => ?_) (AllReady.cons rfl (fun K hK => ?_) AllReady.nil))
      · skip
        go_simp
        go_wp2_with (go_at_call 54; refine (digit_byte _ _).mono ?_; rintro e w' ⟨rfl, rfl⟩)
        refine wpAny_take (i := 8) (v := ?_) rfl (by kernel_rfl) (by kernel_rfl) (by kernel_rfl) (fun _ _ _ h => h) (Or.inl ⟨by rfl, ?_⟩) ?_
        rotate_left
        · intro w
          go_simp
          try rfl
        refine wpAny_ready (rs := [9]) (by kernel_rfl) (by simp) ?_
        refine (AllReady.cons rfl (fun K hK => ?_) AllReady.nil)
        go_simp
        refine hK _ _ ?_
        clear hK K
        refine wpAny_ready (rs := [10]) (by kernel_rfl) (by simp) ?_
        refine (AllReady.cons rfl (fun K hK => ?_) AllReady.nil)
        go_simp
        refine hK _ _ ?_
        clear hK K
        refine wpAny_done (by kernel_rfl) ?_ _
        go_wp2_with fail
        go_meet
        exact ⟨rfl, rfl⟩
      · skip
        go_simp
        refine hK _ _ ?_
        clear hK K
        refine wpAny_ready (rs := [7]) (by kernel_rfl) (by simp) ?_
        refine (AllReady.cons rfl (fun K hK => ?_) AllReady.nil)
        go_simp
        go_wp2_with (go_at_call 54; refine (digit_byte _ _).mono ?_; rintro e w' ⟨rfl, rfl⟩)
        refine wpAny_take (i := 8) (v := ?_) rfl (by kernel_rfl) (by kernel_rfl) (by kernel_rfl) (fun _ _ _ h => h) (Or.inl ⟨by rfl, ?_⟩) ?_
        rotate_left
        · intro w
          go_simp
          try rfl
        refine wpAny_ready (rs := [10]) (by kernel_rfl) (by simp) ?_
        refine (AllReady.cons rfl (fun K hK => ?_) AllReady.nil)
        go_simp
        refine hK _ _ ?_
        clear hK K
        refine wpAny_done (by kernel_rfl) ?_ _
        go_wp2_with fail
        go_meet
        exact ⟨rfl, rfl⟩
    · skip
      go_simp
      refine hK _ _ ?_
      clear hK K
      refine wpAny_ready (rs := [2]) (by kernel_rfl) (by simp) ?_
      refine (AllReady.cons rfl (fun K hK => ?_) AllReady.nil)
      go_simp
      go_wp2_with (go_at_call 54; refine (digit_byte _ _).mono ?_; rintro e w' ⟨rfl, rfl⟩)
      refine wpAny_ready (rs := [7]) (by kernel_rfl) (by simp) ?_
      refine (AllReady.cons rfl (fun K hK => ?_) AllReady.nil)
      go_simp
      go_wp2_with (go_at_call 54; refine (digit_byte _ _).mono ?_; rintro e w' ⟨rfl, rfl⟩)
      refine wpAny_take (i := 8) (v := ?_) rfl (by kernel_rfl) (by kernel_rfl) (by kernel_rfl) (fun _ _ _ h => h) (Or.inl ⟨by rfl, ?_⟩) ?_
      rotate_left
      · intro w
        go_simp
        try rfl
      refine wpAny_ready (rs := [10]) (by kernel_rfl) (by simp) ?_
      refine (AllReady.cons rfl (fun K hK => ?_) AllReady.nil)
      go_simp
      refine hK _ _ ?_
      clear hK K
      refine wpAny_done (by kernel_rfl) ?_ _
      go_wp2_with fail
      go_meet
      exact ⟨rfl, rfl⟩
  case rest =>
    obtain ⟨rfl, rfl⟩ := hcut
    go_wp2_with (go_at_call 55; refine (isNode_any _ _).mono ?_; rintro e w' ⟨rfl, rfl⟩)
    · rename_i hn
      refine bodyPost_ret (v := .tuple #[.agg #[.int .i64 0, .int .u8 0, .int .i64 0], .bool false]) (by simp [results, Try.results40, go_sem]) rfl ⟨0, 0, 0, false, rfl, ?_, fun h => (by cases h), ?_⟩
      · rw [byt_eq t 0 h0] at hn
        rw [Bool.eq_iff_iff, blkOk_iff]
        simp at hn ⊢
        omega
      · exact ((((Below.refl _ w).alloc (Nat.le_refl _) _).alloc (by simp) _).drew).trans (by first | exact Below.refl _ _ | exact (Below.refl _ _).setCell (Nat.le_refl _) _)
    · go_region
      all_goals go_wp2
      all_goals
        refine bodyPost_ret (v := .tuple #[.agg #[.int .i64 ((t[0].toNat : Int) - 48), .int .u8 (t[1].toNat : Int), .int .i64 ((t[2].toNat : Int) - 48)], .bool (((t[2].toNat : Int) - 48) == 0)]) (by simp [results, Try.results40, go_sem]) rfl ⟨_, _, _, _, rfl, ?_, fun _ => ⟨by rw [byt_eq t 0 h0], by rw [byt_eq t 1 h1], by rw [byt_eq t 2 h2]⟩, ?_⟩
        · simp only [byt_eq t 0 h0, byt_eq t 1 h1, byt_eq t 2 h2] at *
          rw [Bool.eq_iff_iff, blkOk_iff]
          simp only [Bool.not_eq_eq_eq_not, Bool.not_false, decide_eq_true_eq, beq_iff_eq] at *
          omega
        · exact ((((Below.refl _ w).alloc (Nat.le_refl _) _).alloc (by simp) _).drew).drew
    · go_region_with (go_at_call 55; refine (isNode_any _ _).mono ?_; rintro e w' ⟨rfl, rfl⟩)
      all_goals go_wp2
      all_goals
        refine bodyPost_ret (v := .tuple #[.agg #[.int .i64 ((t[0].toNat : Int) - 48), .int .u8 (t[1].toNat : Int), .int .i64 ((t[2].toNat : Int) - 48)], .bool (decide (0 ≤ ((t[2].toNat : Int) - 48)) && decide (((t[2].toNat : Int) - 48) < 7))]) (by simp [results, Try.results40, go_sem]) rfl ⟨_, _, _, _, rfl, ?_, fun _ => ⟨by rw [byt_eq t 0 h0], by rw [byt_eq t 1 h1], by rw [byt_eq t 2 h2]⟩, ?_⟩
        · simp only [byt_eq t 0 h0, byt_eq t 1 h1, byt_eq t 2 h2] at *
          rw [Bool.eq_iff_iff, blkOk_iff]
          simp only [Bool.and_eq_true, Bool.not_eq_eq_eq_not, Bool.not_false, decide_eq_true_eq, beq_iff_eq, beq_eq_false_iff_ne, ne_eq] at *
          omega
        · exact ((((Below.refl _ w).alloc (Nat.le_refl _) _).alloc (by simp) _).drew).drew
    · go_region_with (go_at_call 55; refine (isNode_any _ _).mono ?_; rintro e w' ⟨rfl, rfl⟩)
      all_goals go_wp2
      all_goals
        refine bodyPost_ret (v := .tuple #[.agg #[.int .i64 ((t[0].toNat : Int) - 48), .int .u8 (t[1].toNat : Int), .int .i64 ((t[2].toNat : Int) - 48)], .bool (decide (0 ≤ ((t[2].toNat : Int) - 48)) && decide (((t[2].toNat : Int) - 48) < 7))]) (by simp [results, Try.results40, go_sem]) rfl ⟨_, _, _, _, rfl, ?_, fun _ => ⟨by rw [byt_eq t 0 h0], by rw [byt_eq t 1 h1], by rw [byt_eq t 2 h2]⟩, ?_⟩
        · simp only [byt_eq t 0 h0, byt_eq t 1 h1, byt_eq t 2 h2] at *
          rw [Bool.eq_iff_iff, blkOk_iff]
          simp only [Bool.and_eq_true, Bool.not_eq_eq_eq_not, Bool.not_false, decide_eq_true_eq, beq_iff_eq, beq_eq_false_iff_ne, ne_eq] at *
          omega
        · exact ((((Below.refl _ w).alloc (Nat.le_refl _) _).alloc (by simp) _).drew).drew
    · refine bodyPost_ret (v := .tuple #[.agg #[.int .i64 0, .int .u8 0, .int .i64 0], .bool false]) (by simp [results, Try.results40, go_sem]) rfl ⟨0, 0, 0, false, rfl, ?_, fun h => (by cases h), ?_⟩
      · simp only [byt_eq t 0 h0, byt_eq t 1 h1] at *
        rw [Bool.eq_iff_iff, blkOk_iff]
        simp only [Bool.not_eq_eq_eq_not, Bool.not_false, decide_eq_true_eq, beq_eq_false_iff_ne, ne_eq, Bool.false_eq_true, false_iff] at *
        omega
      · exact ((((Below.refl _ w).alloc (Nat.le_refl _) _).alloc (by simp) _).drew).trans (by first | exact Below.refl _ _ | exact (Below.refl _ _).setCell (Nat.le_refl _) _)
end Go.Proofs.Ytpecfjejfkcolaa

/- What chains.Members does entry by entry: plain mathematics. -/
namespace Go.Proofs.Ytpecfjejfkcolaa
set_option linter.unusedVariables false

def stepC (c : ByteArray) (st : Option (Nat × List Blk)) (x : Nat) : Option (Nat × List Blk) :=
  match st with
  | none => none
  | some (s, ep) => if okAt c x = true ∧ s.testBit (byt c (3 * x) - 48) = true then
      (if (x + 1) % 3 = 0 then some (countS (ep ++ [blkAt c x]) s, []) else some (s, ep ++ [blkAt c x])) else none
def runC (c : ByteArray) (s0 : Nat) (l : List Nat) : Option (Nat × List Blk) := l.foldl (stepC c) (some (s0, []))
theorem runC_snoc (c : ByteArray) (s0 : Nat) (l : List Nat) (x : Nat) : runC c s0 (l ++ [x]) = stepC c (runC c s0 l) x := by simp [runC]
theorem foldl_none (c : ByteArray) : ∀ l : List Nat, l.foldl (stepC c) none = none
  | [] => rfl
  | _ :: r => foldl_none c r
theorem runC_none {c : ByteArray} {s0 : Nat} {l r : List Nat} (h : runC c s0 l = none) : runC c s0 (l ++ r) = none := by
  unfold runC at *
  rw [List.foldl_append, h, foldl_none]
def GoodC (n : Nat) (st : Option (Nat × List Blk)) : Prop := ∀ s ep, st = some (s, ep) → s < 128 ∧ ep.length ≤ n ∧ ∀ b ∈ ep, b.1 < 7
theorem GoodC.step {c : ByteArray} {n x : Nat} {st : Option (Nat × List Blk)} (hg : GoodC n st) : GoodC (n + 1) (stepC c st x) := by
  intro s ep h
  cases st with
  | none => cases h
  | some q =>
    obtain ⟨s', ep'⟩ := q
    obtain ⟨i1, i2, i3⟩ := hg s' ep' rfl
    simp only [stepC] at h
    split at h
    · rename_i hc
      have hb : (blkAt c x).1 < 7 := by
        have := blkOk_iff.1 hc.1
        show byt c (3 * x) - 48 < 7
        omega
      split at h
      · simp only [Option.some.injEq, Prod.mk.injEq] at h
        obtain ⟨rfl, rfl⟩ := h
        exact ⟨countS_lt i1, by simp, by simp⟩
      · simp only [Option.some.injEq, Prod.mk.injEq] at h
        obtain ⟨rfl, rfl⟩ := h
        refine ⟨i1, by simp; omega, fun b hb' => ?_⟩
        rcases List.mem_append.1 hb' with h' | h'
        · exact i3 b h'
        · simp at h'; rw [h']; exact hb
    · cases h
theorem GoodC.run {c : ByteArray} : ∀ (l : List Nat) (n : Nat) (st : Option (Nat × List Blk)), GoodC n st → GoodC (n + l.length) (l.foldl (stepC c) st)
  | [], _, _, h => h
  | x :: r, n, st, h => by
    have := GoodC.run (c := c) r (n + 1) (stepC c st x) h.step
    rw [List.length_cons, show n + (r.length + 1) = n + 1 + r.length by omega]
    exact this
theorem runC_facts {c : ByteArray} {s0 : Nat} (h0 : s0 < 128) (l : List Nat) (s : Nat) (ep : List Blk) (h : runC c s0 l = some (s, ep)) : s < 128 ∧ ep.length ≤ l.length ∧ ∀ b ∈ ep, b.1 < 7 := by
  have hg : GoodC 0 (some (s0, ([] : List Blk))) := by
    intro s ep h
    simp only [Option.some.injEq, Prod.mk.injEq] at h
    obtain ⟨rfl, rfl⟩ := h
    exact ⟨h0, by simp, by simp⟩
  have := GoodC.run (c := c) l 0 _ hg s ep h
  simpa using this

/-- the blocks since the last epoch's end -/
def sinceE (c : ByteArray) (k : Nat) : List Blk := (List.range (k % 3)).map (fun i => blkAt c (k - k % 3 + i))
theorem runC_range (c : ByteArray) (s0 : Nat) : ∀ k, runC c s0 (List.range k) = (memTo c s0 k).map (fun s => (s, sinceE c k))
  | 0 => by simp [runC, memTo, sinceE]
  | k + 1 => by
    rw [List.range_succ, runC_snoc, runC_range c s0 k, memTo]
    cases hm : memTo c s0 k with
    | none => rfl
    | some s =>
      simp only [Option.map_some, stepC]
      by_cases hc : okAt c k = true ∧ s.testBit (byt c (3 * k) - 48) = true
      · rw [if_pos hc, if_pos hc]
        by_cases h3 : (k + 1) % 3 = 0
        · rw [if_pos h3, if_pos h3]
          have e2 : k % 3 = 2 := by omega
          have e : sinceE c k ++ [blkAt c k] = [blkAt c (k - 2), blkAt c (k - 1), blkAt c k] := by
            unfold sinceE
            rw [e2]
            have e3 : k - 2 + 1 = k - 1 := by omega
            show [blkAt c (k - 2 + 0), blkAt c (k - 2 + 1)] ++ [blkAt c k] = _
            rw [e3]; rfl
          rw [e]
          have e0 : sinceE c (k + 1) = [] := by unfold sinceE; rw [h3]; rfl
          simp [e0]
        · rw [if_neg h3, if_neg h3]
          have e : sinceE c k ++ [blkAt c k] = sinceE c (k + 1) := by
            unfold sinceE
            have e1 : (k + 1) % 3 = k % 3 + 1 := by omega
            have e2 : k + 1 - (k % 3 + 1) = k - k % 3 := by omega
            have e3 : k - k % 3 + k % 3 = k := by omega
            rw [e1, e2, List.range_succ, List.map_append, List.map_cons, List.map_nil, e3]
          simp [e]
      · rw [if_neg hc, if_neg hc]; rfl
end Go.Proofs.Ytpecfjejfkcolaa

/- chains.Members. -/
namespace Go.Proofs.Ytpecfjejfkcolaa
open Go.RowKit Go.Shelf
set_option linter.unusedVariables false

set_option maxHeartbeats 1000000 in
theorem chMembers_no (n : Int) (c : ByteArray) (w : World) (hn : n < 4 ∨ 7 < n) :
    Calls Try.prog 22 #[.int .i64 n, .string c] w fun e w' => e = .returned (.tuple #[.int .i64 0, .int .i64 1]) ∧ Below w.heap.size w w' := by
  rcases hn with h | h
  · go_enter Try.func22, Try.ntmps22
    go_wp2
    exact bodyPost_ret (v := .tuple #[.int .i64 0, .int .i64 1]) (by simp [results, Try.results22, go_sem]) rfl ⟨rfl, ((Below.refl _ w).alloc (Nat.le_refl _) _).alloc (by simp) _⟩
  · have h' : ¬ n < 4 := by omega
    go_enter Try.func22, Try.ntmps22
    go_wp2
    exact bodyPost_ret (v := .tuple #[.int .i64 0, .int .i64 1]) (by simp [results, Try.results22, go_sem]) rfl ⟨rfl, ((Below.refl _ w).alloc (Nat.le_refl _) _).alloc (by simp) _⟩

set_option maxHeartbeats 1000000 in
theorem chMembers_bad (n : Nat) (c : ByteArray) (w : World) (h4 : 4 ≤ n) (h8 : n < 8) (hc : c.size ≤ maxLen) (hb : ¬ (c.size % 3 = 0 ∧ c.size ≤ 18)) :
    Calls Try.prog 22 #[.int .i64 (n : Int), .string c] w fun e w' => e = .returned (.tuple #[.int .i64 0, .int .i64 5]) ∧ Below w.heap.size w w' := by
  have hmx : c.size ≤ 2 ^ 63 - 1 := by unfold maxLen at hc; exact hc
  by_cases h3 : c.size % 3 = 0
  · have h18 : 6 < c.size / 3 := by omega
    obtain ⟨m, hm⟩ : ∃ m, c.size / 3 = m := ⟨_, rfl⟩
    have HM := hide hm
    rw [hm] at h18
    clear hb hm
    go_enter Try.func22, Try.ntmps22
    go_wp2_with (go_at_call 37; refine (blocks_is m c _ hc HM.out).mono ?_; rintro e w' ⟨rfl, rfl⟩)
    exact bodyPost_ret (v := .tuple #[.int .i64 0, .int .i64 5]) (by simp [results, Try.results22, go_sem]) rfl ⟨rfl, ((Below.refl _ w).alloc (Nat.le_refl _) _).alloc (by simp) _⟩
  · clear hb
    go_enter Try.func22, Try.ntmps22
    go_wp2
    exact bodyPost_ret (v := .tuple #[.int .i64 0, .int .i64 5]) (by simp [results, Try.results22, go_sem]) rfl ⟨rfl, ((Below.refl _ w).alloc (Nat.le_refl _) _).alloc (by simp) _⟩
end Go.Proofs.Ytpecfjejfkcolaa
