/- chains.Members in one word; chains.Leader, moot.Leader. -/
import Derived.Test.YtgeecddmificeaaChMembersLoop
namespace Go.Proofs.Ytgeecddmificeaa
open Go.RowKit Go.Shelf
set_option linter.unusedVariables false

/-- chains.Members at a number of nodes that may be. -/
theorem chMembers_is (n : Nat) (c : ByteArray) (w : World) (h4 : 4 ≤ n) (h8 : n < 8) (hc : c.size ≤ maxLen) :
    Calls Try.prog 22 #[.int .i64 (n : Int), .string c] w fun e w' => e = .returned (chRes (members n c)) ∧ Below w.heap.size w w' := by
  unfold members
  by_cases h : c.size % 3 = 0 ∧ c.size ≤ 18
  · rw [if_pos h]; exact chMembers_run n c w h4 h8 h.1 h.2
  · rw [if_neg h]; exact chMembers_bad n c w h4 h8 hc h
theorem chMembers_some (n s : Nat) (c : ByteArray) (w : World) (h4 : 4 ≤ n) (h8 : n < 8) (hc : c.size ≤ maxLen) (h : members n c = some s) :
    Calls Try.prog 22 #[.int .i64 (n : Int), .string c] w fun e w' => e = .returned (.tuple #[.int .i64 (s : Int), .int .i64 0]) ∧ Below w.heap.size w w' := by
  have := chMembers_is n c w h4 h8 hc
  rw [h] at this
  exact this
theorem chMembers_none (n : Nat) (c : ByteArray) (w : World) (h4 : 4 ≤ n) (h8 : n < 8) (hc : c.size ≤ maxLen) (h : members n c = none) :
    Calls Try.prog 22 #[.int .i64 (n : Int), .string c] w fun e w' => e = .returned (.tuple #[.int .i64 0, .int .i64 5]) ∧ Below w.heap.size w w' := by
  have := chMembers_is n c w h4 h8 hc
  rw [h] at this
  exact this

/-- the members are four at least -/
theorem stepS_ge {bl : List Blk} {s i : Nat} (hs : s < 128) (hi : i < 7) (h : 4 ≤ sizeS s) : 4 ≤ sizeS (stepS bl s i) := by
  unfold stepS
  split
  · rw [sizeS_with hs hi]; omega
  · split
    · rename_i h2
      have := sizeS_without hs hi
      rw [h2.2.1] at this
      simp at this
      omega
    · exact h
theorem countTo_ge {bl : List Blk} {s : Nat} (hs : s < 128) (h : 4 ≤ sizeS s) : ∀ k, k ≤ 7 → 4 ≤ sizeS (countTo bl s k)
  | 0, _ => h
  | k + 1, hk => stepS_ge (countTo_lt hs k (by omega)) (by omega) (countTo_ge hs h k (by omega))
theorem memTo_ge {c : ByteArray} {s0 : Nat} (h0 : s0 < 128) (h : 4 ≤ sizeS s0) : ∀ k s, memTo c s0 k = some s → 4 ≤ sizeS s
  | 0, s, e => by simp [memTo] at e; rw [← e]; exact h
  | k + 1, s, e => by
    rw [memTo] at e
    cases hm : memTo c s0 k with
    | none => rw [hm] at e; cases e
    | some s' =>
      rw [hm] at e
      have i1 := memTo_lt h0 k s' hm
      have i2 := memTo_ge h0 h k s' hm
      simp only at e
      split at e
      · simp only [Option.some.injEq] at e
        rw [← e]
        split
        · exact countTo_ge i1 i2 7 (by omega)
        · exact i2
      · cases e
theorem members_ge {n : Nat} {c : ByteArray} {s : Nat} (h4 : 4 ≤ n) (h8 : n < 8) (h : members n c = some s) : 4 ≤ sizeS s := by
  unfold members at h
  split at h
  · refine memTo_ge (firstS_lt h8) ?_ _ _ h
    unfold sizeS; rw [listed_first h8, List.length_range]; exact h4
  · cases h
theorem members_size {n : Nat} {c : ByteArray} {s : Nat} (h : members n c = some s) : c.size ≤ 18 := by
  unfold members at h
  split at h
  · rename_i hc; exact hc.2
  · cases h

/-- what Leader answers -/
def leadRes (n r : Int) (c : ByteArray) : Int × Int :=
  if 4 ≤ n ∧ n ≤ 7 then
    match members n.toNat c with
    | none => (0, 5)
    | some s => if 0 ≤ r ∧ r ≤ 9 then (((leaderOf s (c.size / 3 + 1 + r.toNat) : Nat) : Int), 0) else (0, 4)
  else (0, 1)

theorem leadRes_cfg {n r : Int} {c : ByteArray} (h : ¬ (4 ≤ n ∧ n ≤ 7)) : leadRes n r c = (0, 1) := if_neg h
theorem leadRes_chain {m : Nat} {r : Int} {c : ByteArray} (h : 4 ≤ (m : Int) ∧ (m : Int) ≤ 7) (hm : members m c = none) : leadRes m r c = (0, 5) := by
  unfold leadRes
  rw [if_pos h, Int.toNat_natCast, hm]
theorem leadRes_step {m s : Nat} {r : Int} {c : ByteArray} (h : 4 ≤ (m : Int) ∧ (m : Int) ≤ 7) (hm : members m c = some s) (hr : ¬ (0 ≤ r ∧ r ≤ 9)) : leadRes m r c = (0, 4) := by
  unfold leadRes
  rw [if_pos h, Int.toNat_natCast, hm]
  exact if_neg hr
theorem leadRes_ok {m s : Nat} {r : Int} {c : ByteArray} (h : 4 ≤ (m : Int) ∧ (m : Int) ≤ 7) (hm : members m c = some s) (hr : 0 ≤ r ∧ r ≤ 9) : leadRes m r c = (((leaderOf s (c.size / 3 + 1 + r.toNat) : Nat) : Int), 0) := by
  unfold leadRes
  rw [if_pos h, Int.toNat_natCast, hm]
  exact if_pos hr
theorem ret_two {a b : Int} {p : Int × Int} (h : p = (a, b)) : Ending.returned (.tuple #[.int .i64 a, .int .i64 b]) = .returned (.tuple #[.int .i64 p.1, .int .i64 p.2]) := by rw [h]
theorem nodeAt_is (a : Nat) (p : Int) (s : Nat) (hs : s < 128) (hp0 : 0 ≤ p) (hp : p < sizeS s) (w : World) (h : (listed s).getD p.toNat 0 = a) :
    Calls Try.prog 45 #[.int .i64 (s : Int), .int .i64 p] w fun e w' => e = .returned (.int .i64 (a : Int)) ∧ Below w.heap.size w w' := by
  obtain ⟨q, rfl⟩ := Int.eq_ofNat_of_zero_le hp0
  rw [Int.toNat_natCast] at h
  rw [← h]; exact nodeAt_any s q hs (by omega) w

set_option maxRecDepth 100000 in
set_option maxHeartbeats 1000000 in
theorem chLeader_any (n r : Int) (c : ByteArray) (w : World) (hc : c.size ≤ maxLen) :
    Calls Try.prog 25 #[.int .i64 n, .string c, .int .i64 r] w fun e w' => e = .returned (.tuple #[.int .i64 (leadRes n r c).1, .int .i64 (leadRes n r c).2]) ∧ Below w.heap.size w w' := by
  by_cases hn : 4 ≤ n ∧ n ≤ 7
  · obtain ⟨m, rfl⟩ := Int.eq_ofNat_of_zero_le (show 0 ≤ n by omega)
    have h4 : 4 ≤ m := by omega
    have h8 : m < 8 := by omega
    cases hm : members m c with
    | none =>
      have HR := hide (leadRes_chain (r := r) hn hm)
      have HM := hide hm
      clear hm
      go_enter Try.func25, Try.ntmps25
      go_wp2_with (go_at_call 22; refine (chMembers_none m c _ h4 h8 hc HM.out).mono ?_; rintro e w' ⟨rfl, hb⟩)
      go_ret2
      exact ⟨ret_two HR.out, hb⟩
    | some s =>
      have hs128 := members_lt h8 hm
      have hs4 := members_ge h4 h8 hm
      have h18 := members_size hm
      have hs7 : sizeS s ≤ 7 := sizeS_le
      by_cases hr : 0 ≤ r ∧ r ≤ 9
      · have HR := hide (leadRes_ok hn hm hr)
        have HM := hide hm
        obtain ⟨z, hz⟩ : ∃ z, sizeS s = z := ⟨_, rfl⟩
        obtain ⟨bl, hbl⟩ : ∃ bl, c.size / 3 = bl := ⟨_, rfl⟩
        have hbl6 : bl ≤ 6 := by omega
        have HZ := hide hz
        have HBL := hide hbl
        rw [hz] at hs4 hs7
        have hp0 : (0 : Int) ≤ ((bl : Int) + 1 + r) % z := Int.emod_nonneg _ (by omega)
        have hp1 : ((bl : Int) + 1 + r) % z < z := Int.emod_lt_of_pos _ (by omega)
        have hl : Hid ((listed s).getD (((bl : Int) + 1 + r) % z).toNat 0 = leaderOf s (c.size / 3 + 1 + r.toNat)) := by
          show _ = _
          unfold leaderOf
          rw [hz, hbl]
          congr 1
          obtain ⟨q, rfl⟩ := Int.eq_ofNat_of_zero_le hr.1
          rw [Int.toNat_natCast]
          have e : ((bl : Int) + 1 + (q : Int)) % (z : Int) = (((bl + 1 + q) % z : Nat) : Int) := by simp
          rw [e, Int.toNat_natCast]
        obtain ⟨hr0, hr9⟩ := hr
        clear hm hz hbl
        go_enter Try.func25, Try.ntmps25
        go_wp2_with (first
          | (go_at_call 22; refine (chMembers_some m s c _ h4 h8 hc HM.out).mono ?_; rintro e w' ⟨rfl, hb⟩)
          | (go_at_call 37; refine (blocks_is bl c _ hc HBL.out).mono ?_; rintro e w' ⟨rfl, rfl⟩)
          | (go_at_call 23; refine (size_is z s hs128 _ HZ.out).mono ?_; rintro e w' ⟨rfl, rfl⟩))
        refine (nodeAt_is _ _ s hs128 hp0 (by rw [HZ.out]; exact hp1) _ hl.out).mono ?_
        rintro e w2 ⟨rfl, hb2⟩
        go_wp2
        go_ret2
        exact ⟨ret_two HR.out, hb.trans (hb2.mono hb.size)⟩
      · have HR := hide (leadRes_step hn hm hr)
        have HM := hide hm
        clear hm
        by_cases hr0 : r < 0
        · clear hr
          go_enter Try.func25, Try.ntmps25
          go_wp2_with (go_at_call 22; refine (chMembers_some m s c _ h4 h8 hc HM.out).mono ?_; rintro e w' ⟨rfl, hb⟩)
          go_ret2
          exact ⟨ret_two HR.out, hb⟩
        · have hr9 : 9 < r := by omega
          clear hr
          go_enter Try.func25, Try.ntmps25
          go_wp2_with (go_at_call 22; refine (chMembers_some m s c _ h4 h8 hc HM.out).mono ?_; rintro e w' ⟨rfl, hb⟩)
          go_ret2
          exact ⟨ret_two HR.out, hb⟩
  · have HR := hide (leadRes_cfg (r := r) (c := c) hn)
    have hn' : n < 4 ∨ 7 < n := by omega
    have HN := hide hn'
    clear hn hn'
    go_enter Try.func25, Try.ntmps25
    go_wp2_with (go_at_call 22; refine (chMembers_no n c _ HN.out).mono ?_; rintro e w' ⟨rfl, hb⟩)
    go_ret2
    exact ⟨ret_two HR.out, hb⟩

set_option maxHeartbeats 400000 in
theorem leader_any (n r : Int) (c : ByteArray) (w : World) (hc : c.size ≤ maxLen) :
    Calls Try.prog 10 #[.int .i64 n, .string c, .int .i64 r] w fun e w' => e = .returned (.tuple #[.int .i64 (leadRes n r c).1, .int .i64 (leadRes n r c).2]) ∧ Below w.heap.size w w' := by
  go_enter Try.func10, Try.ntmps10
  go_wp2_with (go_at_call 25; refine (chLeader_any n r c _ hc).mono ?_; rintro e w' ⟨rfl, hb⟩)
  go_ret2
  exact ⟨rfl, hb⟩
end Go.Proofs.Ytgeecddmificeaa
