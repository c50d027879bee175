import Derived.Test.YtpecfjejfkcolaaPart3
/- mootref.May: what may be, by the document. -/
namespace Go.Proofs.Ytpecfjejfkcolaa
open Go.RowKit
set_option linter.unusedVariables false

theorem between_is (t : Bool) (n lo hi : Int) (w : World) (ht : decide (lo ≤ n ∧ n ≤ hi) = t) :
    Calls Try.prog 50 #[.int .i64 n, .int .i64 lo, .int .i64 hi] w fun e w' => e = .returned (.bool t) ∧ w' = w := by
  rw [← ht]; exact between_any n lo hi w
theorem moved_is (t : Bool) (p : Int) (c : ByteArray) (b h r : Int) (w : World) (hh : 0 ≤ h ∧ h ≤ 300) (hr : 0 ≤ r ∧ r ≤ 300) (hc : c.size ≤ maxLen) (ht : mvOk p c b h r = t) :
    Calls Try.prog 51 #[.int .i64 p, .string c, .int .i64 b, .int .i64 h, .int .i64 r] w fun e w' => e = .returned (.bool t) ∧ w' = w := by
  rw [← ht]; exact moved_any p c b h r w hh hr hc
/-- what May looks at first -/
def frontOk (m : Mg) : Prop := (1 ≤ m.kind ∧ m.kind ≤ 6) ∧ (0 ≤ m.frm ∧ m.frm ≤ 6) ∧ (1 ≤ m.height ∧ m.height ≤ (if m.kind = 6 then 6 else 7)) ∧ (0 ≤ m.round ∧ m.round ≤ 9) ∧ (0 ≤ m.by' ∧ m.by' ≤ 127)
theorem front_of {m : Mg} (h : mayB m = true) : frontOk m := by
  unfold mayB at h
  rw [Bool.and_eq_true] at h
  obtain ⟨h1, h2⟩ := h
  unfold headOk at h1
  rw [decide_eq_true_eq] at h1
  have hk : 1 ≤ m.kind ∧ m.kind ≤ 6 := by
    refine Classical.byContradiction fun hn => ?_
    rw [body0_eq hn] at h2
    cases h2
  have hb : 0 ≤ m.by' ∧ m.by' ≤ 127 := by
    by_cases k1 : m.kind = 1
    · unfold bodyOk at h2
      rw [if_pos k1] at h2
      simp only [Bool.and_eq_true, decide_eq_true_eq] at h2
      omega
    by_cases k2 : m.kind = 2 ∨ m.kind = 3
    · rw [body23_eq k2] at h2
      simp only [Bool.and_eq_true, decide_eq_true_eq] at h2
      omega
    by_cases k4 : m.kind = 4
    · rw [body4_eq k4] at h2
      simp only [Bool.and_eq_true, decide_eq_true_eq, mvOk_iff] at h2
      omega
    by_cases k5 : m.kind = 5
    · rw [body5_eq k5] at h2
      simp only [Bool.and_eq_true, decide_eq_true_eq] at h2
      omega
    have k6 : m.kind = 6 := by omega
    rw [body6_eq k6] at h2
    simp only [decide_eq_true_eq] at h2
    omega
  refine ⟨hk, by omega, by omega, ?_, hb⟩
  split at h1 <;> omega
theorem head_of_front {m : Mg} (h : frontOk m) (hk : m.kind ≠ 6) : headOk m = true := by
  obtain ⟨h1, h2, h3, h4, h5⟩ := h
  unfold headOk
  rw [decide_eq_true_eq]
  rw [if_neg hk] at h3
  rw [if_neg hk, if_neg hk]
  omega


theorem front_iff {m : Mg} (h : mayB m = true) : frontOk m := front_of h
theorem may23_iff {m : Mg} (hk : m.kind = 2 ∨ m.kind = 3) : mayB m = true ↔ frontOk m ∧ (m.chain.size : Int) = 3 * m.height ∧ m.prep = -1 ∧ m.by' = 0 ∧ m.moves.length = 0 := by
  constructor
  · intro h
    refine ⟨front_of h, ?_⟩
    unfold mayB at h
    rw [body23_eq hk] at h
    simp only [Bool.and_eq_true, longOk, decide_eq_true_eq] at h
    exact ⟨h.2.1, h.2.2⟩
  · rintro ⟨h1, h2, h3⟩
    unfold mayB
    rw [head_of_front h1 (by omega), body23_eq hk]
    simp only [Bool.and_eq_true, longOk, decide_eq_true_eq]
    exact ⟨trivial, h2, h3⟩
theorem may4_iff {m : Mg} (hk : m.kind = 4) : mayB m = true ↔ frontOk m ∧ mvOk m.prep m.chain m.by' m.height m.round = true ∧ m.moves.length = 0 := by
  constructor
  · intro h
    refine ⟨front_of h, ?_⟩
    unfold mayB at h
    rw [body4_eq hk] at h
    simp only [Bool.and_eq_true, decide_eq_true_eq] at h
    exact ⟨h.2.2, h.2.1⟩
  · rintro ⟨h1, h2, h3⟩
    unfold mayB
    rw [head_of_front h1 (by omega), body4_eq hk]
    simp only [Bool.and_eq_true, decide_eq_true_eq]
    exact ⟨trivial, h3, h2⟩
theorem may5_iff {m : Mg} (hk : m.kind = 5) : mayB m = true ↔ frontOk m ∧ (m.chain.size : Int) = 3 * m.height ∧ m.prep = -1 ∧ m.moves.length = 0 := by
  constructor
  · intro h
    refine ⟨front_of h, ?_⟩
    unfold mayB at h
    rw [body5_eq hk] at h
    simp only [Bool.and_eq_true, longOk, decide_eq_true_eq] at h
    exact ⟨h.2.1, h.2.2.1, h.2.2.2.2.2⟩
  · rintro ⟨h1, h2, h3, h4⟩
    unfold mayB
    rw [head_of_front h1 (by omega), body5_eq hk]
    simp only [Bool.and_eq_true, longOk, decide_eq_true_eq]
    exact ⟨trivial, h2, h3, h1.2.2.2.2.1, h1.2.2.2.2.2, h4⟩
theorem may6_iff {m : Mg} (hk : m.kind = 6) : mayB m = true ↔ frontOk m ∧ m.chain.size = 0 ∧ (m.prep = -1 ∧ m.by' = 0) ∧ m.moves.length = 0 ∧ m.round = 0 := by
  constructor
  · intro h
    refine ⟨front_of h, ?_⟩
    unfold mayB at h
    rw [body6_eq hk] at h
    unfold headOk at h
    rw [if_pos hk, if_pos hk] at h
    simp only [Bool.and_eq_true, decide_eq_true_eq] at h
    omega
  · rintro ⟨h1, h2, h3, h4⟩
    unfold mayB
    rw [body6_eq hk]
    unfold headOk
    unfold frontOk at h1
    rw [if_pos hk] at h1
    rw [if_pos hk, if_pos hk]
    simp only [Bool.and_eq_true, decide_eq_true_eq]
    omega

set_option maxRecDepth 100000 in
set_option maxHeartbeats 4000000 in
theorem may2 (m : Mg) (v : Value) (w : World) (hv : MovesAt w v m.moves) (hc : m.chain.size ≤ maxLen) (hk : m.kind = 2) :
    Calls Try.prog 30 #[mgV m v] w fun e w' => e = .returned (.bool (mayB m)) ∧ Below w.heap.size w w' := by
  have hlen := hv.2.2
  obtain ⟨ao, cap, hvs, hjunk⟩ := hv.1
  clear hv hjunk
  obtain ⟨k, f, h, r, c, p, b, l⟩ := m
  dsimp only at hc hk hvs hlen
  unfold maxLen at hc
  subst hvs hk
  obtain ⟨bf, hF⟩ : ∃ x, decide (0 ≤ f ∧ f ≤ 6) = x := ⟨_, rfl⟩
  obtain ⟨bh, hH⟩ : ∃ x, decide (1 ≤ h ∧ h ≤ 7) = x := ⟨_, rfl⟩
  obtain ⟨br, hR⟩ : ∃ x, decide (0 ≤ r ∧ r ≤ 9) = x := ⟨_, rfl⟩
  obtain ⟨by', hY⟩ : ∃ x, decide (0 ≤ b ∧ b ≤ 127) = x := ⟨_, rfl⟩
  have HA : Hid (decide (1 ≤ (2 : Int) ∧ (2 : Int) ≤ 6) = true) := rfl
  have HF := hide hF
  have HH := hide hH
  have HR := hide hR
  have HY := hide hY
  clear hF hH hR hY
  have HW : Hid (1 ≤ h ∧ h ≤ 7 → wrap64 (3 * h) = 3 * h) := fun hx => by unfold wrap64; omega
  go_enter Try.func30, Try.ntmps30
  go_wp2_with (first
    | (go_at_call 50; refine (between_any _ _ _ _).mono ?_; rintro e w' ⟨rfl, rfl⟩; first | rw [HA.out] | rw [HF.out] | rw [HH.out] | rw [HR.out] | rw [HY.out]))
  all_goals go_ret
  all_goals refine ⟨ret_bool ?_, (Below.refl _ w).alloc (Nat.le_refl _) _⟩
  all_goals rw [Bool.eq_iff_iff, may23_iff (Or.inl rfl)]
  all_goals have hF := HF.out
  all_goals have hH := HH.out
  all_goals have hR := HR.out
  all_goals have hY := HY.out
  all_goals have hW := HW.out
  all_goals clear HW
  all_goals unfold frontOk
  all_goals dsimp only at *
  all_goals rw [if_neg (by decide)]
  all_goals clear HA HF HH HR HY
  all_goals simp only [beq_iff_eq, Bool.false_eq_true, Bool.not_eq_eq_eq_not, Bool.not_false, Bool.not_true, Bool.not_eq_true, false_iff] at *
  all_goals try simp only [← List.length_eq_zero_iff] at *
  all_goals subst_vars
  all_goals simp only [decide_eq_true_eq, decide_eq_false_iff_not, true_and] at *
  all_goals omega

set_option maxRecDepth 100000 in
set_option maxHeartbeats 4000000 in
theorem may3 (m : Mg) (v : Value) (w : World) (hv : MovesAt w v m.moves) (hc : m.chain.size ≤ maxLen) (hk : m.kind = 3) :
    Calls Try.prog 30 #[mgV m v] w fun e w' => e = .returned (.bool (mayB m)) ∧ Below w.heap.size w w' := by
  have hlen := hv.2.2
  obtain ⟨ao, cap, hvs, hjunk⟩ := hv.1
  clear hv hjunk
  obtain ⟨k, f, h, r, c, p, b, l⟩ := m
  dsimp only at hc hk hvs hlen
  unfold maxLen at hc
  subst hvs hk
  obtain ⟨bf, hF⟩ : ∃ x, decide (0 ≤ f ∧ f ≤ 6) = x := ⟨_, rfl⟩
  obtain ⟨bh, hH⟩ : ∃ x, decide (1 ≤ h ∧ h ≤ 7) = x := ⟨_, rfl⟩
  obtain ⟨br, hR⟩ : ∃ x, decide (0 ≤ r ∧ r ≤ 9) = x := ⟨_, rfl⟩
  obtain ⟨by', hY⟩ : ∃ x, decide (0 ≤ b ∧ b ≤ 127) = x := ⟨_, rfl⟩
  have HA : Hid (decide (1 ≤ (3 : Int) ∧ (3 : Int) ≤ 6) = true) := rfl
  have HF := hide hF
  have HH := hide hH
  have HR := hide hR
  have HY := hide hY
  clear hF hH hR hY
  have HW : Hid (1 ≤ h ∧ h ≤ 7 → wrap64 (3 * h) = 3 * h) := fun hx => by unfold wrap64; omega
  go_enter Try.func30, Try.ntmps30
  go_wp2_with (first
    | (go_at_call 50; refine (between_any _ _ _ _).mono ?_; rintro e w' ⟨rfl, rfl⟩; first | rw [HA.out] | rw [HF.out] | rw [HH.out] | rw [HR.out] | rw [HY.out]))
  all_goals go_ret
  all_goals refine ⟨ret_bool ?_, (Below.refl _ w).alloc (Nat.le_refl _) _⟩
  all_goals rw [Bool.eq_iff_iff, may23_iff (Or.inr rfl)]
  all_goals have hF := HF.out
  all_goals have hH := HH.out
  all_goals have hR := HR.out
  all_goals have hY := HY.out
  all_goals have hW := HW.out
  all_goals clear HW
  all_goals unfold frontOk
  all_goals dsimp only at *
  all_goals rw [if_neg (by decide)]
  all_goals clear HA HF HH HR HY
  all_goals simp only [beq_iff_eq, Bool.false_eq_true, Bool.not_eq_eq_eq_not, Bool.not_false, Bool.not_true, Bool.not_eq_true, false_iff] at *
  all_goals try simp only [← List.length_eq_zero_iff] at *
  all_goals subst_vars
  all_goals simp only [decide_eq_true_eq, decide_eq_false_iff_not, true_and] at *
  all_goals omega

set_option maxRecDepth 100000 in
set_option maxHeartbeats 4000000 in
theorem may5 (m : Mg) (v : Value) (w : World) (hv : MovesAt w v m.moves) (hc : m.chain.size ≤ maxLen) (hk : m.kind = 5) :
    Calls Try.prog 30 #[mgV m v] w fun e w' => e = .returned (.bool (mayB m)) ∧ Below w.heap.size w w' := by
  have hlen := hv.2.2
  obtain ⟨ao, cap, hvs, hjunk⟩ := hv.1
  clear hv hjunk
  obtain ⟨k, f, h, r, c, p, b, l⟩ := m
  dsimp only at hc hk hvs hlen
  unfold maxLen at hc
  subst hvs hk
  obtain ⟨bf, hF⟩ : ∃ x, decide (0 ≤ f ∧ f ≤ 6) = x := ⟨_, rfl⟩
  obtain ⟨bh, hH⟩ : ∃ x, decide (1 ≤ h ∧ h ≤ 7) = x := ⟨_, rfl⟩
  obtain ⟨br, hR⟩ : ∃ x, decide (0 ≤ r ∧ r ≤ 9) = x := ⟨_, rfl⟩
  obtain ⟨by', hY⟩ : ∃ x, decide (0 ≤ b ∧ b ≤ 127) = x := ⟨_, rfl⟩
  have HA : Hid (decide (1 ≤ (5 : Int) ∧ (5 : Int) ≤ 6) = true) := rfl
  have HF := hide hF
  have HH := hide hH
  have HR := hide hR
  have HY := hide hY
  clear hF hH hR hY
  have HW : Hid (1 ≤ h ∧ h ≤ 7 → wrap64 (3 * h) = 3 * h) := fun hx => by unfold wrap64; omega
  go_enter Try.func30, Try.ntmps30
  go_wp2_with (first
    | (go_at_call 50; refine (between_any _ _ _ _).mono ?_; rintro e w' ⟨rfl, rfl⟩; first | rw [HA.out] | rw [HF.out] | rw [HH.out] | rw [HR.out] | rw [HY.out]))
  all_goals go_ret
  all_goals refine ⟨ret_bool ?_, (Below.refl _ w).alloc (Nat.le_refl _) _⟩
  all_goals rw [Bool.eq_iff_iff, may5_iff rfl]
  all_goals have hF := HF.out
  all_goals have hH := HH.out
  all_goals have hR := HR.out
  all_goals have hY := HY.out
  all_goals have hW := HW.out
  all_goals clear HW
  all_goals unfold frontOk
  all_goals dsimp only at *
  all_goals rw [if_neg (by decide)]
  all_goals clear HA HF HH HR HY
  all_goals simp only [beq_iff_eq, Bool.false_eq_true, Bool.not_eq_eq_eq_not, Bool.not_false, Bool.not_true, Bool.not_eq_true, false_iff] at *
  all_goals try simp only [← List.length_eq_zero_iff] at *
  all_goals subst_vars
  all_goals simp only [decide_eq_true_eq, decide_eq_false_iff_not, true_and] at *
  all_goals omega
end Go.Proofs.Ytpecfjejfkcolaa

/- mootref.May: Change, Ask, no kind. -/
namespace Go.Proofs.Ytpecfjejfkcolaa
open Go.RowKit
set_option linter.unusedVariables false

set_option maxRecDepth 100000 in
set_option maxHeartbeats 4000000 in
theorem may6 (m : Mg) (v : Value) (w : World) (hv : MovesAt w v m.moves) (hc : m.chain.size ≤ maxLen) (hk : m.kind = 6) :
    Calls Try.prog 30 #[mgV m v] w fun e w' => e = .returned (.bool (mayB m)) ∧ Below w.heap.size w w' := by
  have hlen := hv.2.2
  obtain ⟨ao, cap, hvs, hjunk⟩ := hv.1
  clear hv hjunk
  obtain ⟨k, f, h, r, c, p, b, l⟩ := m
  dsimp only at hc hk hvs hlen
  unfold maxLen at hc
  subst hvs hk
  obtain ⟨bf, hF⟩ : ∃ x, decide (0 ≤ f ∧ f ≤ 6) = x := ⟨_, rfl⟩
  obtain ⟨bh, hH⟩ : ∃ x, decide (1 ≤ h ∧ h ≤ 6) = x := ⟨_, rfl⟩
  obtain ⟨br, hR⟩ : ∃ x, decide (0 ≤ r ∧ r ≤ 9) = x := ⟨_, rfl⟩
  obtain ⟨by', hY⟩ : ∃ x, decide (0 ≤ b ∧ b ≤ 127) = x := ⟨_, rfl⟩
  have HA : Hid (decide (1 ≤ (6 : Int) ∧ (6 : Int) ≤ 6) = true) := rfl
  have HF := hide hF
  have HH := hide hH
  have HR := hide hR
  have HY := hide hY
  clear hF hH hR hY
  have HW : Hid (1 ≤ h ∧ h ≤ 7 → wrap64 (3 * h) = 3 * h) := fun hx => by unfold wrap64; omega
  go_enter Try.func30, Try.ntmps30
  go_wp2_with (first
    | (go_at_call 50; refine (between_any _ _ _ _).mono ?_; rintro e w' ⟨rfl, rfl⟩; first | rw [HA.out] | rw [HF.out] | rw [HH.out] | rw [HR.out] | rw [HY.out]))
  all_goals go_ret
  all_goals refine ⟨ret_bool ?_, (Below.refl _ w).alloc (Nat.le_refl _) _⟩
  all_goals rw [Bool.eq_iff_iff, may6_iff rfl]
  all_goals have hF := HF.out
  all_goals have hH := HH.out
  all_goals have hR := HR.out
  all_goals have hY := HY.out
  all_goals have hW := HW.out
  all_goals clear HW
  all_goals unfold frontOk
  all_goals dsimp only at *
  all_goals rw [if_pos (by decide)]
  all_goals clear HA HF HH HR HY
  all_goals simp only [bytes_nil, beq_iff_eq, Bool.false_eq_true, Bool.not_eq_eq_eq_not, Bool.not_false, Bool.not_true, Bool.not_eq_true, false_iff] at *
  all_goals try simp only [← List.length_eq_zero_iff] at *
  all_goals subst_vars
  all_goals simp only [decide_eq_true_eq, decide_eq_false_iff_not, true_and, and_true] at *
  all_goals omega

set_option maxRecDepth 100000 in
set_option maxHeartbeats 4000000 in
theorem may0 (m : Mg) (v : Value) (w : World) (hv : ∃ ao n cap, v = .slice ao n cap) (hn : ¬ (1 ≤ m.kind ∧ m.kind ≤ 6)) :
    Calls Try.prog 30 #[mgV m v] w fun e w' => e = .returned (.bool (mayB m)) ∧ Below w.heap.size w w' := by
  have HM : Hid (mayB m = false) := by
    show _ = _
    cases h : mayB m with
    | false => rfl
    | true => exact absurd (front_of h).1 hn
  obtain ⟨ao, n, cap, rfl⟩ := hv
  obtain ⟨k, f, h, r, c, p, b, l⟩ := m
  dsimp only at hn
  obtain ⟨bf, hF⟩ : ∃ x, decide (0 ≤ f ∧ f ≤ 6) = x := ⟨_, rfl⟩
  obtain ⟨bh, hH⟩ : ∃ x, decide (1 ≤ h ∧ h ≤ 7) = x := ⟨_, rfl⟩
  obtain ⟨br, hR⟩ : ∃ x, decide (0 ≤ r ∧ r ≤ 9) = x := ⟨_, rfl⟩
  obtain ⟨by', hY⟩ : ∃ x, decide (0 ≤ b ∧ b ≤ 127) = x := ⟨_, rfl⟩
  have HA : Hid (decide (1 ≤ k ∧ k ≤ 6) = false) := decide_eq_false hn
  have k6 : (k == 6) = false := beq_eq_false_iff_ne.2 (by omega)
  have HF := hide hF
  have HH := hide hH
  have HR := hide hR
  have HY := hide hY
  clear hF hH hR hY hn
  go_enter Try.func30, Try.ntmps30
  go_wp2_with (first
    | (go_at_call 50; refine (between_any _ _ _ _).mono ?_; rintro e w' ⟨rfl, rfl⟩; first | rw [HA.out] | rw [HF.out] | rw [HH.out] | rw [HR.out] | rw [HY.out]))
  go_ret
  exact ⟨ret_bool HM.out.symm, (Below.refl _ w).alloc (Nat.le_refl _) _⟩

set_option maxRecDepth 100000 in
set_option maxHeartbeats 4000000 in
theorem may4 (m : Mg) (v : Value) (w : World) (hv : MovesAt w v m.moves) (hc : m.chain.size ≤ maxLen) (hk : m.kind = 4) :
    Calls Try.prog 30 #[mgV m v] w fun e w' => e = .returned (.bool (mayB m)) ∧ Below w.heap.size w w' := by
  have hlen := hv.2.2
  obtain ⟨ao, cap, hvs, hjunk⟩ := hv.1
  clear hv hjunk
  obtain ⟨k, f, h, r, c, p, b, l⟩ := m
  dsimp only at hc hk hvs hlen
  subst hvs hk
  obtain ⟨bf, hF⟩ : ∃ x, decide (0 ≤ f ∧ f ≤ 6) = x := ⟨_, rfl⟩
  obtain ⟨by', hY⟩ : ∃ x, decide (0 ≤ b ∧ b ≤ 127) = x := ⟨_, rfl⟩
  have HA : Hid (decide (1 ≤ (4 : Int) ∧ (4 : Int) ≤ 6) = true) := rfl
  have HF := hide hF
  have HY := hide hY
  clear hF hY
  by_cases hx : (1 ≤ h ∧ h ≤ 7) ∧ (0 ≤ r ∧ r ≤ 9)
  · have HH : Hid (decide (1 ≤ h ∧ h ≤ 7) = true) := decide_eq_true hx.1
    have HR : Hid (decide (0 ≤ r ∧ r ≤ 9) = true) := decide_eq_true hx.2
    have hh : 0 ≤ h ∧ h ≤ 300 := by omega
    have hr : 0 ≤ r ∧ r ≤ 300 := by omega
    obtain ⟨t, ht⟩ : ∃ t, mvOk p c b h r = t := ⟨_, rfl⟩
    have HT := hide ht
    clear ht
    have HX := hide hx
    clear hx
    obtain ⟨tp, hp⟩ : ∃ x, (p == -1) = x := ⟨_, rfl⟩
    obtain ⟨tb, hb⟩ : ∃ x, (b == 0) = x := ⟨_, rfl⟩
    obtain ⟨tl, hl⟩ : ∃ x, ((l.length : Int) == 0) = x := ⟨_, rfl⟩
    go_enter Try.func30, Try.ntmps30
    go_wp2_with (first
    | (go_at_call 50; refine (between_any _ _ _ _).mono ?_; rintro e w' ⟨rfl, rfl⟩; first | rw [HA.out] | rw [HF.out] | rw [HH.out] | rw [HR.out] | rw [HY.out])
    | (go_at_call 51; refine (moved_is t p c b h r _ hh hr hc HT.out).mono ?_; rintro e w' ⟨rfl, rfl⟩))
    all_goals go_ret
    all_goals refine ⟨ret_bool ?_, (Below.refl _ w).alloc (Nat.le_refl _) _⟩
    all_goals rw [Bool.eq_iff_iff, may4_iff rfl]
    all_goals have hF := HF.out
    all_goals have hY := HY.out
    all_goals have hT := HT.out
    all_goals have hX := HX.out
    all_goals unfold frontOk
    all_goals dsimp only at *
    all_goals rw [if_neg (by decide), hT]
    all_goals clear HA HF HH HR HY HT HX hT hp hb
    all_goals try subst hl
    all_goals simp only [beq_iff_eq, Bool.false_eq_true, Bool.not_eq_eq_eq_not, Bool.not_false, Bool.not_true, Bool.not_eq_true, false_iff] at *
    all_goals try simp only [← List.length_eq_zero_iff] at *
    all_goals subst_vars
    all_goals simp only [decide_eq_true_eq, decide_eq_false_iff_not, true_and, false_and, Bool.false_eq_true] at *
    all_goals first | omega | exact fun h => h.2
  · have HM : Hid (mayB ⟨4, f, h, r, c, p, b, l⟩ = false) := by
      show _ = _
      cases h : mayB ⟨4, f, h, r, c, p, b, l⟩ with
      | false => rfl
      | true =>
        have := front_of h
        unfold frontOk at this
        dsimp only at this
        rw [if_neg (by decide)] at this
        exact absurd ⟨this.2.2.1, this.2.2.2.1⟩ hx
    by_cases hx1 : (1 ≤ h ∧ h ≤ 7)
    · have HH : Hid (decide (1 ≤ h ∧ h ≤ 7) = true) := decide_eq_true hx1
      have HR : Hid (decide (0 ≤ r ∧ r ≤ 9) = false) := decide_eq_false (fun h2 => hx ⟨hx1, h2⟩)
      clear hx hx1
      go_enter Try.func30, Try.ntmps30
      go_wp2_with (first
    | (go_at_call 50; refine (between_any _ _ _ _).mono ?_; rintro e w' ⟨rfl, rfl⟩; first | rw [HA.out] | rw [HF.out] | rw [HH.out] | rw [HR.out] | rw [HY.out]))
      all_goals go_ret
      all_goals exact ⟨ret_bool HM.out.symm, (Below.refl _ w).alloc (Nat.le_refl _) _⟩
    · have HH : Hid (decide (1 ≤ h ∧ h ≤ 7) = false) := decide_eq_false hx1
      obtain ⟨br, hR⟩ : ∃ x, decide (0 ≤ r ∧ r ≤ 9) = x := ⟨_, rfl⟩
      have HR := hide hR
      clear hx hx1 hR
      go_enter Try.func30, Try.ntmps30
      go_wp2_with (first
    | (go_at_call 50; refine (between_any _ _ _ _).mono ?_; rintro e w' ⟨rfl, rfl⟩; first | rw [HA.out] | rw [HF.out] | rw [HH.out] | rw [HR.out] | rw [HY.out]))
      all_goals go_ret
      all_goals exact ⟨ret_bool HM.out.symm, (Below.refl _ w).alloc (Nat.le_refl _) _⟩
end Go.Proofs.Ytpecfjejfkcolaa
