import Derived.Test.YtpecfjejfkcolaaPart2
import Derived.Deep.RegionHeld3
import Derived.Deep.DrawnRows
/- wire.bodyMayBe, wire.MayBe. -/
namespace Go.Proofs.Ytpecfjejfkcolaa
open Go.RowKit
set_option linter.unusedVariables false

theorem hasChain_is (t : Bool) (m : Mg) (v : Value) (w : World) (hh : 0 ≤ m.height ∧ m.height ≤ 300) (hc : m.chain.size ≤ maxLen) (hv : ∃ ao n cap, v = .slice ao n cap) (ht : longOk m = t) :
    Calls Try.prog 69 #[mgV m v] w fun e w' => e = .returned (.bool t) ∧ Below w.heap.size w w' := by
  rw [← ht]; exact hasChain_any m v w hh hc hv
theorem isSet_is (t : Bool) (n : Int) (w : World) (ht : decide (0 ≤ n ∧ n ≤ 127) = t) :
    Calls Try.prog 72 #[.int .i64 n] w fun e w' => e = .returned (.bool t) ∧ w' = w := by
  rw [← ht]; exact isSet_any n w
set_option maxHeartbeats 400000 in
theorem moveOf_any (m : Mg) (v : Value) (w : World) (hv : ∃ ao n cap, v = .slice ao n cap) :
    Calls Try.prog 49 #[mgV m v] w fun e w' => e = .returned (mvV ⟨m.frm, m.prep, m.chain, m.by'⟩) ∧ Below w.heap.size w w' := by
  obtain ⟨ao, n, cap, rfl⟩ := hv
  obtain ⟨k, f, h, r, c, p, b, l⟩ := m
  go_enter Try.func49, Try.ntmps49
  go_wp2
  refine bodyPost_ret (v := mvV ⟨f, p, c, b⟩) (by simp [results, Try.results49, go_sem]) rfl ⟨rfl, ?_⟩
  first
    | exact ((Below.refl _ w).alloc (Nat.le_refl _) _).alloc (by simp) _
    | exact (((Below.refl _ w).alloc (Nat.le_refl _) _).alloc (by simp) _).setCell (by simp) _

/-- the message's box, behind a call -/
abbrev mgCells (m : Mg) (v : Value) : Array Value := #[.int .i64 m.kind, .int .i64 m.frm, .int .i64 m.height, .int .i64 m.round, .string m.chain, .int .i64 m.prep, .int .i64 m.by', v]
theorem box8 {w wr : World} {a0 a1 a2 a3 a4 a5 a6 a7 : Value} {t : TypeId} (h : Below (w.alloc (.cells #[a0, a1, a2, a3, a4, a5, a6, a7] t)).heap.size (w.alloc (.cells #[a0, a1, a2, a3, a4, a5, a6, a7] t)) wr) :
    wr.cell? ⟨w.heap.size, 0, none⟩ = some a0 ∧ wr.cell? ⟨w.heap.size, 1, none⟩ = some a1 ∧ wr.cell? ⟨w.heap.size, 2, none⟩ = some a2 ∧ wr.cell? ⟨w.heap.size, 3, none⟩ = some a3 ∧ wr.cell? ⟨w.heap.size, 4, none⟩ = some a4 ∧ wr.cell? ⟨w.heap.size, 5, none⟩ = some a5 ∧ wr.cell? ⟨w.heap.size, 6, none⟩ = some a6 ∧ wr.cell? ⟨w.heap.size, 7, none⟩ = some a7 := by
  have h' : Below (w.heap.size + 1) _ wr := h.mono (by rw [World.size_alloc]; exact Nat.le_refl _)
  exact ⟨box_cell h' rfl, box_cell h' rfl, box_cell h' rfl, box_cell h' rfl, box_cell h' rfl, box_cell h' rfl, box_cell h' rfl, box_cell h' rfl⟩

set_option maxRecDepth 100000 in
set_option maxHeartbeats 2000000 in
theorem body1 (m : Mg) (v : Value) (w : World) (hv : MovesAt w v m.moves) (hh : 0 ≤ m.height ∧ m.height ≤ 300) (hr : 0 ≤ m.round ∧ m.round ≤ 300) (hc : m.chain.size ≤ maxLen) (hk : m.kind = 1) :
    Calls Try.prog 63 #[mgV m v] w fun e w' => e = .returned (.bool (bodyOk m)) ∧ Below w.heap.size w w' := by
  have HM : Hid (bodyOk m = (longOk m && (decide (m.prep = -1 ∧ m.by' = 0) && movesOk m))) := by show _ = _; unfold bodyOk; rw [if_pos hk]
  have HV := hide hv
  have hv1 := hide hv.slice
  obtain ⟨ao, n, cap, hvs⟩ := hv.slice
  clear hv
  obtain ⟨k, f, h, r, c, p, b, l⟩ := m
  dsimp only at hh hr hc hk HV hv1
  subst hk hvs
  cases hl : longOk ⟨1, f, h, r, c, p, b, l⟩ with
  | false =>
    have HL := hide hl
    clear hl
    go_enter Try.func63, Try.ntmps63
    go_wp2_with (go_at_call 69; refine (hasChain_is false ⟨1, f, h, r, c, p, b, l⟩ _ _ hh hc hv1.out HL.out).mono ?_; rintro e w' ⟨rfl, hb⟩)
    go_ret
    refine ⟨ret_bool ?_, ((Below.refl _ w).alloc (Nat.le_refl _) _).trans (hb.mono (by simp))⟩
    rw [HM.out, HL.out]; rfl
  | true =>
    have HL := hide hl
    clear hl
    by_cases hp : p = -1
    · by_cases hb0 : b = 0
      · have hpB : (p == -1) = true := by simp [hp]
        have hbB : (b == 0) = true := by simp [hb0]
        have HP := hide hp
        have HB := hide hb0
        clear hp hb0
        go_enter Try.func63, Try.ntmps63
        go_wp2_with (first
          | (go_at_call 69; refine (hasChain_is true ⟨1, f, h, r, c, p, b, l⟩ _ _ hh hc hv1.out HL.out).mono ?_; rintro e w1 ⟨rfl, hb1⟩; obtain ⟨z0, z1, z2, z3, z4, z5, z6, z7⟩ := box8 hb1)
          | (go_at_call 70; refine (movesMayBe_any ⟨1, f, h, r, c, p, b, l⟩ _ _ ((HV.out.below ((Below.refl _ w).alloc (Nat.le_refl _) _)).below hb1) hh hr).mono ?_; rintro e w2 ⟨rfl, hb2⟩))
        go_ret
        refine ⟨ret_bool ?_, (((Below.refl _ w).alloc (Nat.le_refl _) _).trans (hb1.mono (by simp))).trans (hb2.mono (Nat.le_trans (by simp) hb1.size))⟩
        rw [HM.out, HL.out, decide_eq_true ⟨HP.out, HB.out⟩]; rfl
      · have hpB : (p == -1) = true := by simp [hp]
        have hbB : (b == 0) = false := by simp [hb0]
        have HP := hide hp
        have HB := hide hb0
        clear hp hb0
        go_enter Try.func63, Try.ntmps63
        go_wp2_with (go_at_call 69; refine (hasChain_is true ⟨1, f, h, r, c, p, b, l⟩ _ _ hh hc hv1.out HL.out).mono ?_; rintro e w1 ⟨rfl, hb1⟩; obtain ⟨z0, z1, z2, z3, z4, z5, z6, z7⟩ := box8 hb1)
        go_ret
        refine ⟨ret_bool ?_, ((Below.refl _ w).alloc (Nat.le_refl _) _).trans (hb1.mono (by simp))⟩
        rw [HM.out, decide_eq_false (fun hx => HB.out hx.2)]; simp
    · have hpB : (p == -1) = false := by simp [hp]
      have HP := hide hp
      clear hp
      go_enter Try.func63, Try.ntmps63
      go_wp2_with (go_at_call 69; refine (hasChain_is true ⟨1, f, h, r, c, p, b, l⟩ _ _ hh hc hv1.out HL.out).mono ?_; rintro e w1 ⟨rfl, hb1⟩; obtain ⟨z0, z1, z2, z3, z4, z5, z6, z7⟩ := box8 hb1)
      go_ret
      refine ⟨ret_bool ?_, ((Below.refl _ w).alloc (Nat.le_refl _) _).trans (hb1.mono (by simp))⟩
      rw [HM.out, decide_eq_false (fun hx => HP.out hx.1)]; simp

/-- Prepare and Commit -/
theorem body23_eq {m : Mg} (hk : m.kind = 2 ∨ m.kind = 3) : bodyOk m = (longOk m && decide (m.prep = -1 ∧ m.by' = 0 ∧ m.moves.length = 0)) := by
  unfold bodyOk
  rw [if_neg (by omega), if_pos hk]
set_option maxRecDepth 100000 in
set_option maxHeartbeats 2000000 in
theorem body2 (m : Mg) (v : Value) (w : World) (hv : MovesAt w v m.moves) (hh : 0 ≤ m.height ∧ m.height ≤ 300) (hr : 0 ≤ m.round ∧ m.round ≤ 300) (hc : m.chain.size ≤ maxLen) (hk : m.kind = 2 ∨ m.kind = 3) :
    Calls Try.prog 63 #[mgV m v] w fun e w' => e = .returned (.bool (bodyOk m)) ∧ Below w.heap.size w w' := by
  have HM := hide (body23_eq hk)
  have hv1 := hide hv.slice
  have hlen := hv.2.2
  obtain ⟨ao, cap, hvs, _⟩ := hv.1
  clear hv
  obtain ⟨k, f, h, r, c, p, b, l⟩ := m
  dsimp only at hh hr hc hk hv1 hvs hlen
  subst hvs
  have k1 : (k == 1) = false := by rcases hk with rfl | rfl <;> rfl
  have hk2 : (k == 2) = true ∨ ((k == 2) = false ∧ (k == 3) = true) := by rcases hk with rfl | rfl <;> simp
  clear hk
  cases hl : longOk ⟨k, f, h, r, c, p, b, l⟩ with
  | false =>
    have HL := hide hl
    clear hl
    rcases hk2 with k2 | ⟨k2, k3⟩
    all_goals
      go_enter Try.func63, Try.ntmps63
      go_wp2_with (go_at_call 69; refine (hasChain_is false ⟨k, f, h, r, c, p, b, l⟩ _ _ hh hc hv1.out HL.out).mono ?_; rintro e w' ⟨rfl, hb⟩)
      go_ret
      refine ⟨ret_bool ?_, ((Below.refl _ w).alloc (Nat.le_refl _) _).trans (hb.mono (by simp))⟩
      rw [HM.out, HL.out]; rfl
  | true =>
    have HL := hide hl
    clear hl
    rcases hk2 with k2 | ⟨k2, k3⟩
    all_goals
      go_enter Try.func63, Try.ntmps63
      go_wp2_with (go_at_call 69; refine (hasChain_is true ⟨k, f, h, r, c, p, b, l⟩ _ _ hh hc hv1.out HL.out).mono ?_; rintro e w1 ⟨rfl, hb1⟩; obtain ⟨z0, z1, z2, z3, z4, z5, z6, z7⟩ := box8 hb1)
      all_goals go_ret
      all_goals refine ⟨ret_bool ?_, ((Below.refl _ w).alloc (Nat.le_refl _) _).trans (hb1.mono (by simp))⟩
      all_goals rw [HM.out, HL.out, Bool.eq_iff_iff]
      all_goals simp only [Bool.and_eq_true, decide_eq_true_eq, beq_iff_eq, beq_eq_false_iff_ne, ne_eq, Bool.false_eq_true, false_iff, true_and] at *
      all_goals omega

/-- Change -/
theorem body4_eq {m : Mg} (hk : m.kind = 4) : bodyOk m = (decide (m.moves.length = 0) && mvOk m.prep m.chain m.by' m.height m.round) := by
  unfold bodyOk
  rw [if_neg (by omega), if_neg (by omega), if_pos hk]
theorem body5_eq {m : Mg} (hk : m.kind = 5) : bodyOk m = (longOk m && decide (m.prep = -1 ∧ 0 ≤ m.by' ∧ m.by' ≤ 127 ∧ m.moves.length = 0)) := by
  unfold bodyOk
  rw [if_neg (by omega), if_neg (by omega), if_neg (by omega), if_pos hk]
theorem body6_eq {m : Mg} (hk : m.kind = 6) : bodyOk m = decide (m.chain.size = 0 ∧ m.prep = -1 ∧ m.by' = 0 ∧ m.moves.length = 0) := by
  unfold bodyOk
  rw [if_neg (by omega), if_neg (by omega), if_neg (by omega), if_neg (by omega), if_pos hk]
theorem body0_eq {m : Mg} (hk : ¬ (1 ≤ m.kind ∧ m.kind ≤ 6)) : bodyOk m = false := by
  unfold bodyOk
  rw [if_neg (by omega), if_neg (by omega), if_neg (by omega), if_neg (by omega), if_neg (by omega)]
set_option maxRecDepth 100000 in
set_option maxHeartbeats 2000000 in
theorem body5 (m : Mg) (v : Value) (w : World) (hv : MovesAt w v m.moves) (hh : 0 ≤ m.height ∧ m.height ≤ 300) (hr : 0 ≤ m.round ∧ m.round ≤ 300) (hc : m.chain.size ≤ maxLen) (hk : m.kind = 5) :
    Calls Try.prog 63 #[mgV m v] w fun e w' => e = .returned (.bool (bodyOk m)) ∧ Below w.heap.size w w' := by
  have HM := hide (body5_eq hk)
  have hv1 := hide hv.slice
  have hlen := hv.2.2
  obtain ⟨ao, cap, hvs, _⟩ := hv.1
  clear hv
  obtain ⟨k, f, h, r, c, p, b, l⟩ := m
  dsimp only at hh hr hc hk hv1 hvs hlen
  subst hvs hk
  cases hl : longOk ⟨5, f, h, r, c, p, b, l⟩ with
  | false =>
    have HL := hide hl
    clear hl
    go_enter Try.func63, Try.ntmps63
    go_wp2_with (go_at_call 69; refine (hasChain_is false ⟨5, f, h, r, c, p, b, l⟩ _ _ hh hc hv1.out HL.out).mono ?_; rintro e w' ⟨rfl, hb⟩)
    go_ret
    refine ⟨ret_bool ?_, ((Below.refl _ w).alloc (Nat.le_refl _) _).trans (hb.mono (by simp))⟩
    rw [HM.out, HL.out]; rfl
  | true =>
    have HL := hide hl
    clear hl
    go_enter Try.func63, Try.ntmps63
    go_wp2_with (first
      | (go_at_call 69; refine (hasChain_is true ⟨5, f, h, r, c, p, b, l⟩ _ _ hh hc hv1.out HL.out).mono ?_; rintro e w1 ⟨rfl, hb1⟩; obtain ⟨z0, z1, z2, z3, z4, z5, z6, z7⟩ := box8 hb1)
      | (go_at_call 72; refine (isSet_any _ _).mono ?_; rintro e w' ⟨rfl, rfl⟩))
    all_goals go_ret
    all_goals refine ⟨ret_bool ?_, ((Below.refl _ w).alloc (Nat.le_refl _) _).trans (hb1.mono (by simp))⟩
    all_goals rw [HM.out, HL.out, Bool.eq_iff_iff]
    all_goals simp only [Bool.and_eq_true, decide_eq_true_eq, beq_iff_eq, Bool.false_eq_true, false_iff, true_and] at *
    all_goals omega
set_option maxRecDepth 100000 in
set_option maxHeartbeats 2000000 in
theorem body6 (m : Mg) (v : Value) (w : World) (hv : MovesAt w v m.moves) (hh : 0 ≤ m.height ∧ m.height ≤ 300) (hr : 0 ≤ m.round ∧ m.round ≤ 300) (hc : m.chain.size ≤ maxLen) (hk : m.kind = 6) :
    Calls Try.prog 63 #[mgV m v] w fun e w' => e = .returned (.bool (bodyOk m)) ∧ Below w.heap.size w w' := by
  have HM := hide (body6_eq hk)
  have hlen := hv.2.2
  obtain ⟨ao, cap, hvs, _⟩ := hv.1
  clear hv
  obtain ⟨k, f, h, r, c, p, b, l⟩ := m
  dsimp only at hh hr hc hk hvs hlen
  subst hvs hk
  go_enter Try.func63, Try.ntmps63
  go_wp2
  all_goals go_ret
  all_goals refine ⟨ret_bool ?_, ((Below.refl _ w).alloc (Nat.le_refl _) _)⟩
  all_goals rw [body6_eq rfl, Bool.eq_iff_iff]
  all_goals simp only [bytes_nil, decide_eq_true_eq, beq_iff_eq, Bool.false_eq_true, false_iff, true_and] at *
  all_goals omega
set_option maxRecDepth 100000 in
set_option maxHeartbeats 2000000 in
theorem body0 (m : Mg) (v : Value) (w : World) (hv : ∃ ao n cap, v = .slice ao n cap) (hk : ¬ (1 ≤ m.kind ∧ m.kind ≤ 6)) :
    Calls Try.prog 63 #[mgV m v] w fun e w' => e = .returned (.bool (bodyOk m)) ∧ Below w.heap.size w w' := by
  have HM := hide (body0_eq hk)
  obtain ⟨ao, n, cap, rfl⟩ := hv
  obtain ⟨k, f, h, r, c, p, b, l⟩ := m
  dsimp only at hk
  have k1 : (k == 1) = false := by simp; omega
  have k2 : (k == 2) = false := by simp; omega
  have k3 : (k == 3) = false := by simp; omega
  have k4 : (k == 4) = false := by simp; omega
  have k5 : (k == 5) = false := by simp; omega
  have k6 : (k == 6) = false := by simp; omega
  clear hk
  go_enter Try.func63, Try.ntmps63
  go_wp2
  go_ret
  exact ⟨ret_bool HM.out.symm, ((Below.refl _ w).alloc (Nat.le_refl _) _)⟩
set_option maxRecDepth 100000 in
set_option maxHeartbeats 2000000 in
theorem body4 (m : Mg) (v : Value) (w : World) (hv : MovesAt w v m.moves) (hh : 0 ≤ m.height ∧ m.height ≤ 300) (hr : 0 ≤ m.round ∧ m.round ≤ 300) (hc : m.chain.size ≤ maxLen) (hk : m.kind = 4) :
    Calls Try.prog 63 #[mgV m v] w fun e w' => e = .returned (.bool (bodyOk m)) ∧ Below w.heap.size w w' := by
  have HM := hide (body4_eq hk)
  have hv1 := hide hv.slice
  have hlen := hv.2.2
  obtain ⟨ao, cap, hvs, _⟩ := hv.1
  clear hv
  obtain ⟨k, f, h, r, c, p, b, l⟩ := m
  dsimp only at hh hr hc hk hvs hlen hv1
  subst hvs hk
  by_cases h0 : l.length = 0
  · have h0B : ((l.length : Int) == 0) = true := by simp [h0]
    have H0 := hide h0
    clear h0
    go_enter Try.func63, Try.ntmps63
    obtain ⟨wb, hwb⟩ : ∃ wb, wb = w.alloc (.cells #[.int .i64 4, .int .i64 f, .int .i64 h, .int .i64 r, .string c, .int .i64 p, .int .i64 b, .slice ao l.length cap] 39) := ⟨_, rfl⟩
    have hB0 : Below w.heap.size w wb := by rw [hwb]; exact (Below.refl _ w).alloc (Nat.le_refl _) _
    have hsz : w.heap.size < wb.heap.size := by rw [hwb]; simp
    obtain ⟨z0, z1, z2, z3, z4, z5, z6, z7⟩ := box8 (w := w) (wr := wb) (by rw [← hwb]; exact Below.refl _ _)
    go_wp2
    rw [← hwb]
    clear hwb
    go_region_held3 (fun w' => w'.cell? ⟨w.heap.size, 0, none⟩ = some (.int .i64 4) ∧ w'.cell? ⟨w.heap.size, 1, none⟩ = some (.int .i64 f) ∧ w'.cell? ⟨w.heap.size, 2, none⟩ = some (.int .i64 h) ∧ w'.cell? ⟨w.heap.size, 3, none⟩ = some (.int .i64 r) ∧ w'.cell? ⟨w.heap.size, 4, none⟩ = some (.string c) ∧ w'.cell? ⟨w.heap.size, 5, none⟩ = some (.int .i64 p) ∧ w'.cell? ⟨w.heap.size, 6, none⟩ = some (.int .i64 b) ∧ w'.cell? ⟨w.heap.size, 7, none⟩ = some (.slice ao l.length cap)) (go_keep)
      (first
        | (go_at_call 49; refine (moveOf_any ⟨4, f, h, r, c, p, b, l⟩ _ _ hv1.out).mono ?_; rintro e w1 ⟨rfl, hb1⟩; have d0 := (hb1.cell (p := ⟨w.heap.size, 0, none⟩) hsz).trans z0; have d1 := (hb1.cell (p := ⟨w.heap.size, 1, none⟩) hsz).trans z1; have d2 := (hb1.cell (p := ⟨w.heap.size, 2, none⟩) hsz).trans z2; have d3 := (hb1.cell (p := ⟨w.heap.size, 3, none⟩) hsz).trans z3; have d4 := (hb1.cell (p := ⟨w.heap.size, 4, none⟩) hsz).trans z4; have d5 := (hb1.cell (p := ⟨w.heap.size, 5, none⟩) hsz).trans z5; have d6 := (hb1.cell (p := ⟨w.heap.size, 6, none⟩) hsz).trans z6; have d7 := (hb1.cell (p := ⟨w.heap.size, 7, none⟩) hsz).trans z7)
        | (go_at_call 71; refine (moveMayBe_any ⟨f, p, c, b⟩ _ _ _ hh hr hc).mono ?_; rintro e w2 ⟨rfl, hb2⟩; have hsz2 := Nat.lt_of_lt_of_le hsz hb1.size; have e0 := (hb2.cell (p := ⟨w.heap.size, 0, none⟩) hsz2).trans d0; have e1 := (hb2.cell (p := ⟨w.heap.size, 1, none⟩) hsz2).trans d1; have e2 := (hb2.cell (p := ⟨w.heap.size, 2, none⟩) hsz2).trans d2; have e3 := (hb2.cell (p := ⟨w.heap.size, 3, none⟩) hsz2).trans d3; have e4 := (hb2.cell (p := ⟨w.heap.size, 4, none⟩) hsz2).trans d4; have e5 := (hb2.cell (p := ⟨w.heap.size, 5, none⟩) hsz2).trans d5; have e6 := (hb2.cell (p := ⟨w.heap.size, 6, none⟩) hsz2).trans d6; have e7 := (hb2.cell (p := ⟨w.heap.size, 7, none⟩) hsz2).trans d7))
    go_wp2
    go_ret
    refine ⟨ret_bool ?_, (hB0.trans (Below.refl _ _).drew).trans ((hb1.mono hB0.size).trans (hb2.mono (Nat.le_trans hB0.size hb1.size)))⟩
    rw [HM.out, decide_eq_true H0.out]; rfl
  · have h0B : ((l.length : Int) == 0) = false := beq_eq_false_iff_ne.2 (by omega)
    go_enter Try.func63, Try.ntmps63
    go_wp2
    go_quiet (fail)
    go_wp2
    go_ret
    refine ⟨ret_bool ?_, below_drewN ((Below.refl _ w).alloc (Nat.le_refl _) _) _⟩
    rw [HM.out, decide_eq_false h0]; rfl

theorem bodyMayBe_any (m : Mg) (v : Value) (w : World) (hv : MovesAt w v m.moves) (hh : 0 ≤ m.height ∧ m.height ≤ 300) (hr : 0 ≤ m.round ∧ m.round ≤ 300) (hc : m.chain.size ≤ maxLen) :
    Calls Try.prog 63 #[mgV m v] w fun e w' => e = .returned (.bool (bodyOk m)) ∧ Below w.heap.size w w' := by
  by_cases h1 : m.kind = 1
  · exact body1 m v w hv hh hr hc h1
  by_cases h2 : m.kind = 2 ∨ m.kind = 3
  · exact body2 m v w hv hh hr hc h2
  by_cases h4 : m.kind = 4
  · exact body4 m v w hv hh hr hc h4
  by_cases h5 : m.kind = 5
  · exact body5 m v w hv hh hr hc h5
  by_cases h6 : m.kind = 6
  · exact body6 m v w hv hh hr hc h6
  exact body0 m v w hv.slice (by omega)
theorem headMayBe_is (t : Bool) (m : Mg) (v : Value) (w : World) (hv : ∃ ao n cap, v = .slice ao n cap) (ht : headOk m = t) :
    Calls Try.prog 62 #[mgV m v] w fun e w' => e = .returned (.bool t) ∧ Below w.heap.size w w' := by
  rw [← ht]; exact headMayBe_any m v w hv
theorem headOk_bounds {m : Mg} (h : headOk m = true) : (0 ≤ m.height ∧ m.height ≤ 300) ∧ (0 ≤ m.round ∧ m.round ≤ 300) := by
  unfold headOk at h
  rw [decide_eq_true_eq] at h
  split at h <;> omega
set_option maxRecDepth 100000 in
set_option maxHeartbeats 2000000 in
theorem mayBe_any (m : Mg) (v : Value) (w : World) (hv : MovesAt w v m.moves) (hc : m.chain.size ≤ maxLen) :
    Calls Try.prog 47 #[mgV m v] w fun e w' => e = .returned (.bool (mayB m)) ∧ Below w.heap.size w w' := by
  have HM : Hid (mayB m = (headOk m && bodyOk m)) := rfl
  have HV := hide hv
  have hv1 := hide hv.slice
  obtain ⟨ao, n, cap, hvs⟩ := hv.slice
  clear hv
  obtain ⟨k, f, h, r, c, p, b, l⟩ := m
  dsimp only at hc HV hv1
  subst hvs
  cases hl : headOk ⟨k, f, h, r, c, p, b, l⟩ with
  | false =>
    have HL := hide hl
    clear hl
    go_enter Try.func47, Try.ntmps47
    go_wp2_with (go_at_call 62; refine (headMayBe_is false ⟨k, f, h, r, c, p, b, l⟩ _ _ hv1.out HL.out).mono ?_; rintro e w' ⟨rfl, hb⟩)
    go_ret
    refine ⟨ret_bool ?_, ((Below.refl _ w).alloc (Nat.le_refl _) _).trans (hb.mono (by simp))⟩
    rw [HM.out, HL.out]; rfl
  | true =>
    obtain ⟨hh, hr⟩ := headOk_bounds hl
    dsimp only at hh hr
    have HL := hide hl
    clear hl
    go_enter Try.func47, Try.ntmps47
    go_wp2_with (first
      | (go_at_call 62; refine (headMayBe_is true ⟨k, f, h, r, c, p, b, l⟩ _ _ hv1.out HL.out).mono ?_; rintro e w1 ⟨rfl, hb1⟩; obtain ⟨z0, z1, z2, z3, z4, z5, z6, z7⟩ := box8 hb1)
      | (go_at_call 63; refine (bodyMayBe_any ⟨k, f, h, r, c, p, b, l⟩ _ _ ((HV.out.below ((Below.refl _ w).alloc (Nat.le_refl _) _)).below hb1) hh hr hc).mono ?_; rintro e w2 ⟨rfl, hb2⟩))
    go_ret
    refine ⟨ret_bool ?_, (((Below.refl _ w).alloc (Nat.le_refl _) _).trans (hb1.mono (by simp))).trans (hb2.mono (Nat.le_trans (by simp) hb1.size))⟩
    rw [HM.out, HL.out]; rfl
end Go.Proofs.Ytpecfjejfkcolaa
