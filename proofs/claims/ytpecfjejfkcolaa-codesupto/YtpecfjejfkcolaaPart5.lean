import Derived.Test.YtpecfjejfkcolaaPart4
import Derived.Lib.AppendStr
import Derived.Laws.IdiomStrings
import Derived.Deep.RegionHeld3
import Derived.Deep.DrawnRows
/- mootref.May: Propose; the whole. -/
namespace Go.Proofs.Ytpecfjejfkcolaa
open Go.RowKit
set_option linter.unusedVariables false
theorem may1_iff {m : Mg} (hk : m.kind = 1) : mayB m = true ↔ frontOk m ∧ (m.chain.size : Int) = 3 * m.height ∧ (m.prep = -1 ∧ m.by' = 0) ∧ m.moves.length ≤ 7 ∧ (0 < m.moves.length ↔ 0 < m.round) ∧ riseOk m.height m.round (-1) m.moves = true := by
  have e : bodyOk m = (longOk m && (decide (m.prep = -1 ∧ m.by' = 0) && movesOk m)) := by unfold bodyOk; rw [if_pos hk]
  constructor
  · intro h
    have hf := front_of h
    refine ⟨hf, ?_⟩
    unfold mayB at h
    rw [e] at h
    simp only [Bool.and_eq_true, longOk, decide_eq_true_eq] at h
    obtain ⟨_, h1, h2, h3⟩ := h
    refine ⟨h1, h2, ?_⟩
    unfold movesOk at h3
    have hr := hf.2.2.2.1
    by_cases h0 : m.round = 0
    · rw [if_pos h0, decide_eq_true_eq] at h3
      refine ⟨by omega, by omega, ?_⟩
      rw [List.length_eq_zero_iff.1 h3]; rfl
    · rw [if_neg h0] at h3
      simp only [Bool.and_eq_true, decide_eq_true_eq] at h3
      exact ⟨h3.1.2, by omega, h3.2⟩
  · rintro ⟨h1, h2, h3, h4, h5, h6⟩
    unfold mayB
    rw [head_of_front h1 (by omega), e]
    simp only [Bool.and_eq_true, longOk, decide_eq_true_eq]
    refine ⟨trivial, h2, h3, ?_⟩
    have hr := h1.2.2.2.1
    unfold movesOk
    by_cases h0 : m.round = 0
    · rw [if_pos h0, decide_eq_true_eq]; omega
    · rw [if_neg h0]
      simp only [Bool.and_eq_true, decide_eq_true_eq]
      exact ⟨by omega, h6⟩
theorem may_no {m : Mg} (h : ¬ mayB m = true) : false = mayB m := by
  cases hm : mayB m with
  | false => rfl
  | true => exact absurd hm h

set_option maxRecDepth 100000 in
set_option maxHeartbeats 8000000 in
theorem may1 (m : Mg) (v : Value) (w : World) (hv : MovesAt w v m.moves) (hc : m.chain.size ≤ maxLen) (hk : m.kind = 1) :
    Calls Try.prog 30 #[mgV m v] w fun e w' => e = .returned (.bool (mayB m)) ∧ Below w.heap.size w w' := by
  have hlen := hv.2.2
  have HS := hide hv.2.1
  obtain ⟨ao, cap, hvs, hcell⟩ := hv.1
  have HC := hide hcell
  clear hv hcell
  obtain ⟨k, f, h, r, c, p, b, l⟩ := m
  dsimp only at hc hk hvs hlen HS HC
  unfold maxLen at hc
  subst hvs hk
  obtain ⟨bf, hF⟩ : ∃ x, decide (0 ≤ f ∧ f ≤ 6) = x := ⟨_, rfl⟩
  obtain ⟨bh, hH⟩ : ∃ x, decide (1 ≤ h ∧ h ≤ 7) = x := ⟨_, rfl⟩
  obtain ⟨br, hR⟩ : ∃ x, decide (0 ≤ r ∧ r ≤ 9) = x := ⟨_, rfl⟩
  obtain ⟨by', hY⟩ : ∃ x, decide (0 ≤ b ∧ b ≤ 127) = x := ⟨_, rfl⟩
  have HA : Hid (decide (1 ≤ (1 : Int) ∧ (1 : Int) ≤ 6) = true) := rfl
  have HF := hide hF
  have HH := hide hH
  have HR := hide hR
  have HY := hide hY
  clear hF hH hR hY
  have HW : Hid (1 ≤ h ∧ h ≤ 7 → wrap64 (3 * h) = 3 * h) := fun hx => by unfold wrap64; omega
  obtain ⟨tp, hp⟩ : ∃ x, (p == -1) = x := ⟨_, rfl⟩
  obtain ⟨tb, hb⟩ : ∃ x, (b == 0) = x := ⟨_, rfl⟩
  go_enter Try.func30, Try.ntmps30
  go_wp2_with (first
    | (go_at_call 50; refine (between_any _ _ _ _).mono ?_; rintro e w' ⟨rfl, rfl⟩; first | rw [HA.out] | rw [HF.out] | rw [HH.out] | rw [HR.out] | rw [HY.out]))
  all_goals try (
    go_ret
    refine ⟨ret_bool (may_no ?_), (Below.refl _ w).alloc (Nat.le_refl _) _⟩
    rw [may1_iff rfl]
    unfold frontOk
    dsimp only
    rw [if_neg (by decide)]
    rintro ⟨⟨_, q1, q2, q3, q4⟩, q5, ⟨q6, q7⟩, q8, q9, _⟩
    have e1 : bf = true := by rw [← HF.out]; exact decide_eq_true q1
    have e2 : bh = true := by rw [← HH.out]; exact decide_eq_true q2
    have e3 : br = true := by rw [← HR.out]; exact decide_eq_true q3
    have e4 : by' = true := by rw [← HY.out]; exact decide_eq_true q4
    have e5 : tp = true := by rw [← hp, q6]; rfl
    have e6 : tb = true := by rw [← hb, q7]; rfl
    have hW := HW.out q2
    clear HF HH HR HY HW hp hb
    subst e1 e2 e3 e4 e5 e6
    try simp only [Bool.not_true, Bool.false_eq_true, not_true_eq_false, decide_eq_decide.2 q9, beq_self_eq_true, or_false] at *
    all_goals omega)
  have g1 : bf = true := by assumption
  have g2 : bh = true := by assumption
  have g3 : br = true := by assumption
  have g4 : (!by') = false := by assumption
  have g5 : tp = true := by assumption
  have g6 : (c.size : Int) = wrap64 (3 * h) := by assumption
  have g7 : tb = true := by assumption
  have g9 : (l.length : Int) ≤ 7 ∧ (!decide (0 < l.length) == decide (0 < r)) = false := by assumption
  have q1 : 0 ≤ f ∧ f ≤ 6 := of_decide_eq_true (HF.out.trans g1)
  have q2 : 1 ≤ h ∧ h ≤ 7 := of_decide_eq_true (HH.out.trans g2)
  have q3 : 0 ≤ r ∧ r ≤ 9 := of_decide_eq_true (HR.out.trans g3)
  have q4 : 0 ≤ b ∧ b ≤ 127 := of_decide_eq_true (HY.out.trans (by simpa using g4))
  have q6 : p = -1 := by simpa [g5] using hp
  have q7 : b = 0 := by simpa [g7] using hb
  have q9 : 0 < l.length ↔ 0 < r := by
    have := g9.2
    simpa using this
  have HM : Hid (mayB ⟨1, f, h, r, c, p, b, l⟩ = riseOk h r (-1) l) := by
    show _ = _
    rw [Bool.eq_iff_iff, may1_iff rfl]
    unfold frontOk
    dsimp only
    rw [if_neg (by decide)]
    have hW := HW.out q2
    constructor
    · intro hx; exact hx.2.2.2.2.2
    · intro hx; exact ⟨⟨by decide, q1, q2, q3, q4⟩, by omega, ⟨q6, q7⟩, by omega, q9, hx⟩
  have hh : 0 ≤ h ∧ h ≤ 300 := by omega
  have hr : 0 ≤ r ∧ r ≤ 300 := by omega
  have hl7 : l.length ≤ 7 := by omega
  have hB0 : Below w.heap.size w (w.alloc (.cells #[.int .i64 1, .int .i64 f, .int .i64 h, .int .i64 r, .string c, .int .i64 p, .int .i64 b, .slice ao l.length cap] 39)) := (Below.refl _ w).alloc (Nat.le_refl _) _
  have g4' : by' = true := by simpa using g4
  clear q1 q2 q3 q4 q6 q7 q9 g4 g6 g9 hp hb HF HH HR HY HW HA
  subst g1 g2 g3 g5 g7 g4'
  rename (c.size : Int) = wrap64 (3 * h) => j1
  rename (l.length : Int) ≤ 7 ∧ (!decide (0 < l.length) == decide (0 < r)) = false => j2
  clear j1 j2
  go_loopw [11] (fun i wr => ∃ (j : Nat) (z : Int), j ≤ l.length ∧ i = .int .i64 (j : Int) ∧ Hid (riseOk h r (-1) l = riseOk h r z (l.drop j)) ∧ Hid (∀ i (hi : i < l.length), j = i + 1 → z = l[i].node) ∧ Hid (j = 0 → z = -1) ∧ Below w.heap.size w wr ∧ Below (w.heap.size + 1) (w.alloc (.cells #[.int .i64 1, .int .i64 f, .int .i64 h, .int .i64 r, .string c, .int .i64 p, .int .i64 b, .slice ao l.length cap] 39)) wr) (fun i _ => l.length - (intOf i).toNat)
  case atStart => exact ⟨0, -1, by omega, rfl, rfl, fun _ _ e => by omega, fun _ => rfl, hB0, Below.refl _ _⟩
  case round =>
    obtain ⟨j, z, hj, rfl, hrise, hz, hz0, hB, hB1⟩ := hrel
    have s1 := box_size hB1
    have x2 : wr.cell? ⟨w.heap.size, 2, none⟩ = some (.int .i64 h) := box_cell hB1 rfl
    have x3 : wr.cell? ⟨w.heap.size, 3, none⟩ = some (.int .i64 r) := box_cell hB1 rfl
    have x7 : wr.cell? ⟨w.heap.size, 7, none⟩ = some (.slice ao l.length cap) := box_cell hB1 rfl
    by_cases hlt : j < l.length
    · obtain ⟨b0, off, rfl, hlt0, hcell⟩ := HC.out (by omega)
      have HC2 := hide hcell
      obtain ⟨c0, c1, c2, c3⟩ := hcell j hlt
      clear hcell
      rw [← hB.cell (p := ⟨b0, off + j * 4, none⟩) hlt0] at c0
      rw [← hB.cell (p := ⟨b0, off + j * 4 + 1, none⟩) hlt0] at c1
      rw [← hB.cell (p := ⟨b0, off + j * 4 + 2, none⟩) hlt0] at c2
      rw [← hB.cell (p := ⟨b0, off + j * 4 + 3, none⟩) hlt0] at c3
      have hsz := HS.out _ (List.getElem_mem hlt)
      have hst := hide (fun h1 h2 h3 => riseOk_step (h := h) (r := r) (z := z) hlt h1 h2 h3)
      have hno := hide (fun h1 => riseOk_no (h := h) (r := r) (z := z) hlt h1)
      have hnx : Hid (∀ i (hi : i < l.length), j + 1 = i + 1 → l[j].node = l[i].node) := fun i hi e => by
        have : j = i := by omega
        subst this; rfl
      obtain ⟨x, hx⟩ : ∃ x, l[j] = x := ⟨_, rfl⟩
      rw [hx] at c0 c1 c2 c3 hsz hst hno hnx
      clear hx
      obtain ⟨n, q, d, y⟩ := x
      dsimp only at c0 c1 c2 c3 hsz hst hno hnx
      have hA : Below wr.heap.size wr (wr.alloc (.cells #[.int .i64 n, .int .i64 q, .string d, .int .i64 y] 43)) := (Below.refl _ wr).alloc (Nat.le_refl _) _
      have y2 := (hA.cell (p := ⟨w.heap.size, 2, none⟩) s1).trans x2
      have y3 := (hA.cell (p := ⟨w.heap.size, 3, none⟩) s1).trans x3
      have y7 := (hA.cell (p := ⟨w.heap.size, 7, none⟩) s1).trans x7
      have i0 : (0 : Int) ≤ (j : Int) := by omega
      have i1 : (j : Int) < (l.length : Int) := by omega
      have hbn : Below w.heap.size w (wr.alloc (.cells #[.int .i64 n, .int .i64 q, .string d, .int .i64 y] 43)) := hB.trans (hA.mono hB.size)
      by_cases g2 : 0 ≤ n ∧ n ≤ 6
      · cases g3 : mvOk q d y h r with
        | true =>
          have G3 := hide g3
          clear g3
          by_cases hj0 : j = 0
          · have jB : decide (0 < j) = false := decide_eq_false (by omega)
            have HJ := hide hj0
            clear hj0
            go_wp2_with (first
              | (go_at_call 50; refine (between_is true _ _ _ _ (decide_eq_true g2)).mono ?_; rintro e w' ⟨rfl, rfl⟩)
              | (go_at_call 51; refine (moved_is true _ _ _ _ _ _ hh hr hsz G3.out).mono ?_; rintro e w' ⟨rfl, rfl⟩))
            go_quiet (fail)
            go_wp2
            go_roundw
            case rel => exact ⟨j + 1, n, by omega, by go_num, by rw [hrise.out, hst.out (by rw [hz0.out HJ.out]; omega) g2 G3.out]; rfl, hnx.out, fun e => by omega, below_drewN hbn _, below_drewN (hB1.trans (hA.mono s1)) _⟩
            case measure => simp [intOf]; omega
          · have jB : decide (0 < j) = true := decide_eq_true (by omega)
            obtain ⟨i, hi⟩ : ∃ i, j = i + 1 := ⟨j - 1, by omega⟩
            have pz := (HC2.out i (by omega)).1
            rw [← hz.out i (by omega) hi, ← hbn.cell (p := ⟨b0, off + i * 4, none⟩) hlt0, show i = ((j : Int) - 1).toNat by omega] at pz
            have pz2 := pz
            rw [show ((j : Int) - 1).toNat = j - 1 by omega] at pz2
            have HI := hide hi
            clear hi hj0
            have j0 : (0 : Int) ≤ (j : Int) - 1 := by have := HI.out; omega
            have j1 : (j : Int) - 1 < (l.length : Int) := by omega
            have j2 : 0 < j := by have := HI.out; omega
            have j3 : (1 : Int) ≤ (j : Int) := by omega
            have j4 : 1 ≤ j := by omega
            have j5 : (j : Int) ≤ (l.length : Int) := by omega
            by_cases g1 : n ≤ z
            · have g1B : decide (n ≤ z) = true := decide_eq_true g1
              go_wp2_with (first
              | (go_at_call 50; refine (between_is true _ _ _ _ (decide_eq_true g2)).mono ?_; rintro e w' ⟨rfl, rfl⟩)
              | (go_at_call 51; refine (moved_is true _ _ _ _ _ _ hh hr hsz G3.out).mono ?_; rintro e w' ⟨rfl, rfl⟩))
              go_quiet (fail)
              go_wp2
              go_ret
              refine ⟨ret_bool ?_, below_drewN hbn _⟩
              rw [HM.out, hrise.out, hno.out (by omega)]
            · have g1B : decide (n ≤ z) = false := decide_eq_false g1
              go_wp2_with (first
              | (go_at_call 50; refine (between_is true _ _ _ _ (decide_eq_true g2)).mono ?_; rintro e w' ⟨rfl, rfl⟩)
              | (go_at_call 51; refine (moved_is true _ _ _ _ _ _ hh hr hsz G3.out).mono ?_; rintro e w' ⟨rfl, rfl⟩))
              go_quiet (fail)
              go_wp2
              go_roundw
              case rel => exact ⟨j + 1, n, by omega, by go_num, by rw [hrise.out, hst.out (by omega) g2 G3.out]; rfl, hnx.out, fun e => by omega, below_drewN hbn _, below_drewN (hB1.trans (hA.mono s1)) _⟩
              case measure => simp [intOf]; omega
        | false =>
          have G3 := hide g3
          clear g3
          go_wp2_with (first
              | (go_at_call 50; refine (between_is true _ _ _ _ (decide_eq_true g2)).mono ?_; rintro e w' ⟨rfl, rfl⟩)
              | (go_at_call 51; refine (moved_is false _ _ _ _ _ _ hh hr hsz G3.out).mono ?_; rintro e w' ⟨rfl, rfl⟩))
          go_quiet (fail)
          go_wp2
          go_ret
          refine ⟨ret_bool ?_, below_drewN hbn _⟩
          rw [HM.out, hrise.out, hno.out (fun h1 => by have := G3.out; rw [h1.2.2] at this; cases this)]
      · obtain ⟨t, ht⟩ : ∃ t, mvOk q d y h r = t := ⟨_, rfl⟩
        have G3 := hide ht
        clear ht
        go_wp2_with (first
              | (go_at_call 50; refine (between_is false _ _ _ _ (decide_eq_false g2)).mono ?_; rintro e w' ⟨rfl, rfl⟩)
              | (go_at_call 51; refine (moved_is t _ _ _ _ _ _ hh hr hsz G3.out).mono ?_; rintro e w' ⟨rfl, rfl⟩))
        go_quiet (fail)
        go_wp2
        go_ret
        refine ⟨ret_bool ?_, below_drewN hbn _⟩
        rw [HM.out, hrise.out, hno.out (fun h1 => g2 h1.2.1)]
    · go_wp2
      go_ret
      refine ⟨ret_bool ?_, hB⟩
      rw [HM.out, hrise.out, List.drop_eq_nil_of_le (by omega)]
      rfl

theorem may_any (m : Mg) (v : Value) (w : World) (hv : MovesAt w v m.moves) (hc : m.chain.size ≤ maxLen) :
    Calls Try.prog 30 #[mgV m v] w fun e w' => e = .returned (.bool (mayB m)) ∧ Below w.heap.size w w' := by
  by_cases h1 : m.kind = 1
  · exact may1 m v w hv hc h1
  by_cases h2 : m.kind = 2
  · exact may2 m v w hv hc h2
  by_cases h3 : m.kind = 3
  · exact may3 m v w hv hc h3
  by_cases h4 : m.kind = 4
  · exact may4 m v w hv hc h4
  by_cases h5 : m.kind = 5
  · exact may5 m v w hv hc h5
  by_cases h6 : m.kind = 6
  · exact may6 m v w hv hc h6
  exact may0 m v w hv.slice (by omega)
end Go.Proofs.Ytpecfjejfkcolaa

/- Messages as bytes: the plain mathematics, and the document's small writers. -/
namespace Go.Proofs.Ytpecfjejfkcolaa
open Go.RowKit
set_option linter.unusedVariables false

/-- a byte; a Move but for its node; Moves; a message -/
def oneB (n : Int) : ByteArray := ⟨#[UInt8.ofNat n.toNat]⟩
def mvB (p : Int) (c : ByteArray) (b : Int) : ByteArray := if p = -1 then oneB 0 else oneB (p + 1) ++ c ++ oneB b
def movesB : ByteArray → List Mv → ByteArray
  | s, [] => s
  | s, x :: l => movesB (s ++ oneB x.node ++ mvB x.prep x.chain x.by') l
def headB (m : Mg) : ByteArray := oneB m.kind ++ oneB m.frm ++ oneB m.height ++ oneB m.round
def encB (m : Mg) : ByteArray :=
  if m.kind = 1 then movesB (headB m ++ m.chain ++ oneB m.moves.length) m.moves
  else if m.kind = 2 ∨ m.kind = 3 then headB m ++ m.chain
  else if m.kind = 4 then headB m ++ mvB m.prep m.chain m.by'
  else if m.kind = 5 then headB m ++ m.chain ++ oneB m.by'
  else headB m

open Go.Lib (strCells strCells_length)
theorem strCells_append (s t : ByteArray) : strCells (s ++ t) = strCells s ++ strCells t := by
  unfold strCells
  rw [ByteArray.data_append, Array.toList_append, List.map_append]
theorem strCells_one {n : Int} (h0 : 0 ≤ n) (h1 : n < 256) : strCells (oneB n) = [.int .u8 n] := by
  unfold strCells oneB
  simp only [List.map_cons, List.map_nil, List.cons.injEq, and_true]
  congr 1
  rw [UInt8.toNat_ofNat']
  omega
theorem oneB_size (n : Int) : (oneB n).size = 1 := rfl
theorem strCells_at {s : ByteArray} {j : Nat} (h : j < s.data.toList.length) : (strCells s)[j]? = some (.int .u8 (s.data.toList[j].toNat : Int)) := by
  unfold strCells
  rw [List.getElem?_map, List.getElem?_eq_getElem h]
  rfl
/-- 'string(b)' of a row of the call's own -/
theorem run_string_of {w : World} {base : Nat} {v : Value} {s : ByteArray} (h : w.ownsRow base 5 1 v s.size (strCells s)) (h0 : 0 < s.size) : (convert 80 9 v).run Try.prog w = .ok (.string s) w := by
  rcases h.2 with ⟨rfl, hz⟩ | ⟨g, cap, cur, rfl, _⟩
  · omega
  · have hl : s.data.toList.length = s.size := by rw [Array.length_toList]; rfl
    have := run_convert_bytes_back (P := Try.prog) w 80 9 5 ⟨g, 0, none⟩ cap s.data.toList Try.underlying80 Try.underlying5 Try.underlying9 (fun j hj => by
      have hc := h.cells rfl j _ (strCells_at hj)
      exact hc)
    rw [hl] at this
    rw [this, Array.toArray_toList]

set_option maxHeartbeats 1000000 in
set_option maxRecDepth 100000 in
theorem one_any (n : Int) (w : World) (h0 : 0 ≤ n) (h1 : n < 256) :
    Calls Try.prog 31 #[.int .i64 n] w fun e w' => e = .returned (.string (oneB n)) ∧ Below w.heap.size w w' := by
  have hcv : (convert 80 9 (.slice (some ⟨w.heap.size, 0, none⟩) 1 1)).run Try.prog (w.alloc (.cells #[.int .u8 n] 5)) = .ok (.string (oneB n)) (w.alloc (.cells #[.int .u8 n] 5)) := by
    have h := run_convert_bytes_back (P := Try.prog) (w.alloc (.cells #[.int .u8 n] 5)) 80 9 5 ⟨w.heap.size, 0, none⟩ 1 [UInt8.ofNat n.toNat] Try.underlying80 Try.underlying5 Try.underlying9 (fun j hj => by
      have e : j = 0 := by simpa using hj
      subst e
      have e2 : ((UInt8.ofNat n.toNat).toNat : Int) = n := by rw [UInt8.toNat_ofNat']; omega
      show (w.alloc (.cells #[.int .u8 n] 5)).cell? ⟨w.heap.size, 0, none⟩ = some (.int .u8 ((UInt8.ofNat n.toNat).toNat : Int))
      rw [e2]
      simp)
    exact h
  go_enter Try.func31, Try.ntmps31
  go_wp2
  go_ret
  exact ⟨rfl, (Below.refl _ w).alloc (Nat.le_refl _) _⟩
theorem one_is (s : ByteArray) (n : Int) (w : World) (h0 : 0 ≤ n) (h1 : n < 256) (hs : oneB n = s) :
    Calls Try.prog 31 #[.int .i64 n] w fun e w' => e = .returned (.string s) ∧ Below w.heap.size w w' := by
  rw [← hs]; exact one_any n w h0 h1

set_option maxHeartbeats 1000000 in
set_option maxRecDepth 100000 in
theorem move_any (p b : Int) (c : ByteArray) (w : World) (hp : -1 ≤ p ∧ p ≤ 100) (hb : 0 ≤ b ∧ b ≤ 127) (hc : c.size ≤ 1000) :
    Calls Try.prog 32 #[.int .i64 p, .string c, .int .i64 b] w fun e w' => e = .returned (.string (mvB p c b)) ∧ Below w.heap.size w w' := by
  by_cases h1 : p = -1
  · have HM : Hid (mvB p c b = oneB 0) := if_pos h1
    have hpB : (p == -1) = true := by simp [h1]
    clear h1
    go_enter Try.func32, Try.ntmps32
    go_wp2_with (go_at_call 31; refine (one_any _ _ (by omega) (by omega)).mono ?_; rintro e w1 ⟨rfl, hb1⟩)
    go_ret
    rw [HM.out]
    exact ⟨rfl, hb1⟩
  · have HM : Hid (mvB p c b = oneB (p + 1) ++ c ++ oneB b) := if_neg h1
    have hpB : (p == -1) = false := by simp [h1]
    have p0 : 0 ≤ p + 1 := by omega
    clear h1
    have z1 : (oneB (p + 1)).size = 1 := rfl
    have z2 : (oneB b).size = 1 := rfl
    go_enter Try.func32, Try.ntmps32
    go_wp2_with (first
      | (go_at_call 31; refine (one_any _ _ (by omega) (by omega)).mono ?_; first | (rintro e w2 ⟨rfl, hb2⟩; have hb1' := hb1) | (rintro e w1 ⟨rfl, hb1⟩))
      | (go_at_call 31; refine (one_any _ _ (by omega) (by omega)).mono ?_; rintro e w1 ⟨rfl, hb1⟩))
    go_ret
    rw [HM.out]
    exact ⟨rfl, hb1.trans (hb2.mono hb1.size)⟩
end Go.Proofs.Ytpecfjejfkcolaa

/- mootref.Encode. -/
namespace Go.Proofs.Ytpecfjejfkcolaa
open Go.RowKit
set_option linter.unusedVariables false

theorem mvOk_bounds {p : Int} {c : ByteArray} {b h r : Int} (hm : mvOk p c b h r = true) (hh : h ≤ 7) (hr : r ≤ 9) : (-1 ≤ p ∧ p ≤ 8) ∧ (0 ≤ b ∧ b ≤ 127) ∧ c.size ≤ 21 := by
  rw [mvOk_iff] at hm
  omega
theorem rise_bounds {h r : Int} (hh : h ≤ 7) (hr : r ≤ 9) : ∀ (l : List Mv) (z : Int), riseOk h r z l = true → ∀ x ∈ l, (0 ≤ x.node ∧ x.node ≤ 6) ∧ (-1 ≤ x.prep ∧ x.prep ≤ 8) ∧ (0 ≤ x.by' ∧ x.by' ≤ 127) ∧ x.chain.size ≤ 21
  | [], _, _ => fun x hx => by cases hx
  | y :: l, z, hz => fun x hx => by
    rw [riseOk, Bool.and_eq_true, Bool.and_eq_true, decide_eq_true_eq] at hz
    rcases List.mem_cons.1 hx with rfl | hx
    · exact ⟨hz.1.2, mvOk_bounds hz.2.1 hh hr⟩
    · exact rise_bounds hh hr l _ hz.2.2 x hx
/-- what is known of a message that may be -/
structure MayFacts (m : Mg) : Prop where
  kind : 1 ≤ m.kind ∧ m.kind ≤ 6
  frm : 0 ≤ m.frm ∧ m.frm ≤ 6
  height : 1 ≤ m.height ∧ m.height ≤ 7
  round : 0 ≤ m.round ∧ m.round ≤ 9
  by' : 0 ≤ m.by' ∧ m.by' ≤ 127
  prep : -1 ≤ m.prep ∧ m.prep ≤ 8
  chain : m.chain.size ≤ 21
  len : m.moves.length ≤ 7
  moves : ∀ x ∈ m.moves, (0 ≤ x.node ∧ x.node ≤ 6) ∧ (-1 ≤ x.prep ∧ x.prep ≤ 8) ∧ (0 ≤ x.by' ∧ x.by' ≤ 127) ∧ x.chain.size ≤ 21
theorem may_facts {m : Mg} (h : mayB m = true) : MayFacts m := by
  have hf := front_of h
  obtain ⟨f1, f2, f3, f4, f5⟩ := hf
  have f3' : 1 ≤ m.height ∧ m.height ≤ 7 := by split at f3 <;> omega
  have none_of : m.moves.length = 0 → ∀ x ∈ m.moves, (0 ≤ x.node ∧ x.node ≤ 6) ∧ (-1 ≤ x.prep ∧ x.prep ≤ 8) ∧ (0 ≤ x.by' ∧ x.by' ≤ 127) ∧ x.chain.size ≤ 21 := fun e x hx => by
    rw [List.length_eq_zero_iff.1 e] at hx; cases hx
  by_cases k1 : m.kind = 1
  · obtain ⟨_, a1, a2, a3, _, a5⟩ := (may1_iff k1).1 h
    exact ⟨f1, f2, f3', f4, f5, by omega, by omega, a3, rise_bounds (by omega) (by omega) _ _ a5⟩
  by_cases k2 : m.kind = 2 ∨ m.kind = 3
  · obtain ⟨_, a1, a2, a3, a4⟩ := (may23_iff k2).1 h
    exact ⟨f1, f2, f3', f4, f5, by omega, by omega, by omega, none_of a4⟩
  by_cases k4 : m.kind = 4
  · obtain ⟨_, a1, a2⟩ := (may4_iff k4).1 h
    obtain ⟨b1, b2, b3⟩ := mvOk_bounds a1 f3'.2 f4.2
    exact ⟨f1, f2, f3', f4, f5, b1, b3, by omega, none_of a2⟩
  by_cases k5 : m.kind = 5
  · obtain ⟨_, a1, a2, a3⟩ := (may5_iff k5).1 h
    exact ⟨f1, f2, f3', f4, f5, by omega, by omega, by omega, none_of a3⟩
  have k6 : m.kind = 6 := by omega
  obtain ⟨_, a1, a2, a3, a4⟩ := (may6_iff k6).1 h
  exact ⟨f1, f2, f3', f4, f5, by omega, by omega, by omega, none_of a3⟩

theorem may_is (t : Bool) (m : Mg) (v : Value) (w : World) (hv : MovesAt w v m.moves) (hc : m.chain.size ≤ maxLen) (ht : mayB m = t) :
    Calls Try.prog 30 #[mgV m v] w fun e w' => e = .returned (.bool t) ∧ Below w.heap.size w w' := by
  rw [← ht]; exact may_any m v w hv hc
theorem strAdd {a b : ByteArray} (h : a.size + b.size ≤ 1000000) : Op.stringOp .add a b = pure (.string (a ++ b)) := by
  have h1 : ¬ ((a.size + b.size : Nat) : Int) > IntKind.i64.max := by
    have : IntKind.i64.max = 9223372036854775807 := by decide
    omega
  simp only [Op.stringOp, if_neg h1]
theorem enc1_eq {m : Mg} (hk : m.kind = 1) : encB m = movesB (headB m ++ m.chain ++ oneB m.moves.length) m.moves := by
  unfold encB
  rw [if_pos hk]
theorem enc23_eq {m : Mg} (hk : m.kind = 2 ∨ m.kind = 3) : encB m = headB m ++ m.chain := by
  unfold encB
  rw [if_neg (by omega), if_pos hk]
theorem enc4_eq {m : Mg} (hk : m.kind = 4) : encB m = headB m ++ mvB m.prep m.chain m.by' := by
  unfold encB
  rw [if_neg (by omega), if_neg (by omega), if_pos hk]
theorem enc5_eq {m : Mg} (hk : m.kind = 5) : encB m = headB m ++ m.chain ++ oneB m.by' := by
  unfold encB
  rw [if_neg (by omega), if_neg (by omega), if_neg (by omega), if_pos hk]
theorem enc6_eq {m : Mg} (hk : m.kind = 6) : encB m = headB m := by
  unfold encB
  rw [if_neg (by omega), if_neg (by omega), if_neg (by omega), if_neg (by omega)]

set_option maxRecDepth 100000 in
set_option maxHeartbeats 2000000 in
theorem refEnc_no (m : Mg) (v : Value) (w : World) (hv : MovesAt w v m.moves) (hc : m.chain.size ≤ maxLen) (hm : mayB m = false) :
    Calls Try.prog 16 #[mgV m v] w fun e w' => e = .returned (.tuple #[.string ByteArray.empty, .int .i64 2]) ∧ Below w.heap.size w w' := by
  have HV := hide hv
  have HM := hide hm
  obtain ⟨ao, n, cap, hvs⟩ := hv.slice
  clear hv hm
  obtain ⟨k, f, h, r, c, p, b, l⟩ := m
  dsimp only at hc HV
  subst hvs
  go_enter Try.func16, Try.ntmps16
  go_wp2_with (go_at_call 30; refine (may_is false ⟨k, f, h, r, c, p, b, l⟩ _ _ (HV.out.below ((Below.refl _ w).alloc (Nat.le_refl _) _)) hc HM.out).mono ?_; rintro e w1 ⟨rfl, hb1⟩)
  go_ret2
  exact ⟨rfl, ((Below.refl _ w).alloc (Nat.le_refl _) _).trans (hb1.mono (by simp))⟩

end Go.Proofs.Ytpecfjejfkcolaa
