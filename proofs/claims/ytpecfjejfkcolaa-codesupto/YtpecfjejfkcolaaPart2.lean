import Derived.Test.YtpecfjejfkcolaaPart1
import Derived.RangeFuncRecord
/- wire.MayBe: what may be. -/
namespace Go.Proofs.Ytpecfjejfkcolaa
open Go.RowKit
set_option linter.unusedVariables false

/-- a slice value that reads as these Moves -/
def MovesAt (w : World) (v : Value) (l : List Mv) : Prop :=
  (∃ ao cap, v = .slice ao l.length cap ∧ (0 < l.length → ∃ b off, ao = some ⟨b, off, none⟩ ∧ b < w.heap.size ∧ ∀ i (h : i < l.length),
    w.cell? ⟨b, off + i * 4, none⟩ = some (.int .i64 l[i].node) ∧ w.cell? ⟨b, off + i * 4 + 1, none⟩ = some (.int .i64 l[i].prep) ∧ w.cell? ⟨b, off + i * 4 + 2, none⟩ = some (.string l[i].chain) ∧ w.cell? ⟨b, off + i * 4 + 3, none⟩ = some (.int .i64 l[i].by'))) ∧
  (∀ x ∈ l, x.chain.size ≤ maxLen) ∧ l.length ≤ 2000000
theorem MovesAt.slice {w : World} {v : Value} {l : List Mv} (h : MovesAt w v l) : ∃ ao n cap, v = .slice ao n cap := by
  obtain ⟨⟨ao, cap, h, _⟩, _⟩ := h; exact ⟨_, _, _, h⟩
theorem MovesAt.below {w w' : World} {v : Value} {l : List Mv} (h : MovesAt w v l) (hb : Below w.heap.size w w') : MovesAt w' v l := by
  obtain ⟨⟨ao, cap, rfl, hc⟩, h2⟩ := h
  refine ⟨⟨ao, cap, rfl, fun h0 => ?_⟩, h2⟩
  obtain ⟨b, off, rfl, hlt, hcell⟩ := hc h0
  refine ⟨b, off, rfl, Nat.lt_of_lt_of_le hlt hb.size, fun i hi => ?_⟩
  obtain ⟨c0, c1, c2, c3⟩ := hcell i hi
  exact ⟨(hb.cell (p := ⟨b, _, none⟩) hlt).trans c0, (hb.cell (p := ⟨b, _, none⟩) hlt).trans c1, (hb.cell (p := ⟨b, _, none⟩) hlt).trans c2, (hb.cell (p := ⟨b, _, none⟩) hlt).trans c3⟩

theorem moveMayBe_is (t : Bool) (x : Mv) (h r : Int) (w : World) (hh : 0 ≤ h ∧ h ≤ 300) (hr : 0 ≤ r ∧ r ≤ 300) (hc : x.chain.size ≤ maxLen) (ht : mvOk x.prep x.chain x.by' h r = t) :
    Calls Try.prog 71 #[mvV x, .int .i64 h, .int .i64 r] w fun e w' => e = .returned (.bool t) ∧ Below w.heap.size w w' := by
  rw [← ht]; exact moveMayBe_any x h r w hh hr hc

/-- a box that was made at the start stays -/
theorem box_size {w wr : World} {o : Obj} (h : Below (w.heap.size + 1) (w.alloc o) wr) : w.heap.size + 1 ≤ wr.heap.size := by
  have := h.size
  have e : (w.alloc o).heap.size = w.heap.size + 1 := Array.size_push _
  omega
theorem box_cell {w wr : World} {cs : Array Value} {t : TypeId} {i : Nat} {v : Value} (h : Below (w.heap.size + 1) (w.alloc (.cells cs t)) wr) (hi : cs[i]? = some v) : wr.cell? ⟨w.heap.size, i, none⟩ = some v := by
  rw [h.cell (p := ⟨w.heap.size, i, none⟩) (Nat.lt_succ_self _)]
  simp only [World.cell?, World.alloc_heap_new]
  exact hi
theorem within_is (t : Bool) (n lo hi : Int) (w : World) (ht : decide (lo ≤ n ∧ n ≤ hi) = t) :
    Calls Try.prog 68 #[.int .i64 n, .int .i64 lo, .int .i64 hi] w fun e w' => e = .returned (.bool t) ∧ w' = w := by
  rw [← ht]; exact within_any n lo hi w
theorem isNode_is (t : Bool) (n : Int) (w : World) (ht : decide (0 ≤ n ∧ n ≤ 6) = t) :
    Calls Try.prog 55 #[.int .i64 n] w fun e w' => e = .returned (.bool t) ∧ w' = w := by
  rw [← ht]
  refine (isNode_any n w).mono ?_
  rintro e w' ⟨rfl, rfl⟩
  refine ⟨ret_bool ?_, rfl⟩
  rw [Bool.eq_iff_iff]
  simp only [Bool.and_eq_true, decide_eq_true_eq]
  omega
theorem riseOk_step {h r z : Int} {l : List Mv} {j : Nat} (hj : j < l.length) (h1 : z < l[j].node) (h2 : 0 ≤ l[j].node ∧ l[j].node ≤ 6) (h3 : mvOk l[j].prep l[j].chain l[j].by' h r = true) : riseOk h r z (l.drop j) = riseOk h r l[j].node (l.drop (j + 1)) := by
  rw [List.drop_eq_getElem_cons hj, riseOk, h3, decide_eq_true ⟨h1, h2⟩]; rfl
theorem riseOk_no {h r z : Int} {l : List Mv} {j : Nat} (hj : j < l.length) (hn : ¬ (z < l[j].node ∧ (0 ≤ l[j].node ∧ l[j].node ≤ 6) ∧ mvOk l[j].prep l[j].chain l[j].by' h r = true)) : riseOk h r z (l.drop j) = false := by
  rw [List.drop_eq_getElem_cons hj, riseOk]
  cases hm : mvOk l[j].prep l[j].chain l[j].by' h r with
  | false => simp
  | true =>
    rw [decide_eq_false (fun hx => hn ⟨hx.1, hx.2, hm⟩)]; rfl

set_option maxRecDepth 100000 in
set_option maxHeartbeats 2000000 in
theorem movesMayBe_any (m : Mg) (v : Value) (w : World) (hv : MovesAt w v m.moves) (hh : 0 ≤ m.height ∧ m.height ≤ 300) (hr : 0 ≤ m.round ∧ m.round ≤ 300) :
    Calls Try.prog 70 #[mgV m v] w fun e w' => e = .returned (.bool (movesOk m)) ∧ Below w.heap.size w w' := by
  obtain ⟨⟨ao, cap, rfl, hcell⟩, hsz, hlen⟩ := hv
  obtain ⟨k, f, h, r, c, p, b, l⟩ := m
  dsimp only at hh hr hcell hsz hlen ⊢
  have HC := hide hcell
  have HS := hide hsz
  clear hcell hsz
  have hB0 : Below w.heap.size w (w.alloc (.cells #[.int .i64 k, .int .i64 f, .int .i64 h, .int .i64 r, .string c, .int .i64 p, .int .i64 b, .slice ao l.length cap] 39)) := (Below.refl _ w).alloc (Nat.le_refl _) _
  by_cases h0 : r = 0
  · have HM : Hid (movesOk ⟨k, f, h, r, c, p, b, l⟩ = decide (l.length = 0)) := if_pos h0
    have h0B : (r == 0) = true := by simp [h0]
    have H0 := hide h0
    clear h0
    go_enter Try.func70, Try.ntmps70
    go_wp2
    go_ret
    refine ⟨ret_bool ?_, hB0⟩
    rw [HM.out, Bool.eq_iff_iff]
    simp
  · have HM : Hid (movesOk ⟨k, f, h, r, c, p, b, l⟩ = (decide (1 ≤ l.length ∧ l.length ≤ 7) && riseOk h r (-1) l)) := if_neg h0
    have h0B : (r == 0) = false := by simp [h0]
    by_cases hl : 1 ≤ l.length ∧ l.length ≤ 7
    · have HM2 : Hid (movesOk ⟨k, f, h, r, c, p, b, l⟩ = riseOk h r (-1) l) := by
        show _ = _
        rw [HM.out, decide_eq_true hl]; rfl
      obtain ⟨b0, off, rfl, hlt0, hcell⟩ := HC.out (by omega)
      have HC2 := hide hcell
      obtain ⟨hl1, hl7⟩ := hl
      clear hcell HC
      go_enter Try.func70, Try.ntmps70
      go_wp2_with (go_at_call 68; refine (within_is true _ _ _ _ (by simp; omega)).mono ?_; rintro e w' ⟨rfl, rfl⟩)
      go_loopw [3, 21] (fun lst i wr => ∃ (j : Nat) (z : Int), j ≤ l.length ∧ i = .int .i64 (j : Int) ∧ lst = .int .i64 z ∧ Hid (riseOk h r (-1) l = riseOk h r z (l.drop j)) ∧ Below w.heap.size w wr ∧ Below (w.heap.size + 1) (w.alloc (.cells #[.int .i64 k, .int .i64 f, .int .i64 h, .int .i64 r, .string c, .int .i64 p, .int .i64 b, .slice (some ⟨b0, off, none⟩) l.length cap] 39)) wr) (fun _ i _ => l.length - (intOf i).toNat)
      case atStart => exact ⟨0, -1, by omega, rfl, rfl, rfl, hB0, Below.refl _ _⟩
      case round =>
        obtain ⟨j, z, hj, rfl, rfl, hrise, hB, hB1⟩ := hrel
        have s1 := box_size hB1
        have x2 : wr.cell? ⟨w.heap.size, 2, none⟩ = some (.int .i64 h) := box_cell hB1 rfl
        have x3 : wr.cell? ⟨w.heap.size, 3, none⟩ = some (.int .i64 r) := box_cell hB1 rfl
        by_cases hlt : j < l.length
        · obtain ⟨c0, c1, c2, c3⟩ := HC2.out j hlt
          rw [← hB.cell (p := ⟨b0, off + j * 4, none⟩) hlt0] at c0
          rw [← hB.cell (p := ⟨b0, off + j * 4 + 1, none⟩) hlt0] at c1
          rw [← hB.cell (p := ⟨b0, off + j * 4 + 2, none⟩) hlt0] at c2
          rw [← hB.cell (p := ⟨b0, off + j * 4 + 3, none⟩) hlt0] at c3
          have hsz := HS.out _ (List.getElem_mem hlt)
          have hst := hide (fun h1 h2 h3 => riseOk_step (h := h) (r := r) (z := z) hlt h1 h2 h3)
          have hno := hide (fun h1 => riseOk_no (h := h) (r := r) (z := z) hlt h1)
          obtain ⟨x, hx⟩ : ∃ x, l[j] = x := ⟨_, rfl⟩
          rw [hx] at c0 c1 c2 c3 hsz hst hno
          clear hx
          obtain ⟨n, q, d, y⟩ := x
          dsimp only at c0 c1 c2 c3 hsz hst hno
          by_cases g1 : n ≤ z
          · have g1B : decide (n ≤ z) = true := decide_eq_true g1
            go_wp2
            go_ret
            refine ⟨ret_bool ?_, hB.trans ((Below.refl _ wr).alloc hB.size _)⟩
            rw [HM2.out, hrise.out, hno.out (by omega)]
          · have g1B : decide (n ≤ z) = false := decide_eq_false g1
            have hA : Below wr.heap.size wr (wr.alloc (.cells #[.int .i64 n, .int .i64 q, .string d, .int .i64 y] 43)) := (Below.refl _ wr).alloc (Nat.le_refl _) _
            have y2 := (hA.cell (p := ⟨w.heap.size, 2, none⟩) s1).trans x2
            have y3 := (hA.cell (p := ⟨w.heap.size, 3, none⟩) s1).trans x3
            by_cases g2 : 0 ≤ n ∧ n ≤ 6
            · cases g3 : mvOk q d y h r with
              | true =>
                have G3 := hide g3
                clear g3
                go_wp2_with (first
                  | (go_at_call 55; refine (isNode_is true _ _ (decide_eq_true g2)).mono ?_; rintro e w' ⟨rfl, rfl⟩)
                  | (go_at_call 71; refine (moveMayBe_is true ⟨n, q, d, y⟩ _ _ _ hh hr hsz G3.out).mono ?_; rintro e w3 ⟨rfl, hb3⟩; have z0 := box_cell (i := 0) (hb3.mono (by rw [World.size_alloc]; exact Nat.le_refl _)) rfl))
                go_roundw
                case rel => exact ⟨j + 1, n, by omega, by go_num, rfl, by rw [hrise.out, hst.out (by omega) g2 G3.out]; rfl, hB.trans (((Below.refl _ wr).alloc hB.size _).trans (hb3.mono (by rw [World.size_alloc]; omega))), hB1.trans (((Below.refl _ wr).alloc s1 _).trans (hb3.mono (by rw [World.size_alloc]; omega)))⟩
                case measure => simp [intOf]; omega
              | false =>
                have G3 := hide g3
                clear g3
                go_wp2_with (first
                  | (go_at_call 55; refine (isNode_is true _ _ (decide_eq_true g2)).mono ?_; rintro e w' ⟨rfl, rfl⟩)
                  | (go_at_call 71; refine (moveMayBe_is false ⟨n, q, d, y⟩ _ _ _ hh hr hsz G3.out).mono ?_; rintro e w3 ⟨rfl, hb3⟩))
                go_ret
                refine ⟨ret_bool ?_, hB.trans (((Below.refl _ wr).alloc hB.size _).trans (hb3.mono (by rw [World.size_alloc]; omega)))⟩
                rw [HM2.out, hrise.out, hno.out (fun h1 => by have := G3.out; rw [h1.2.2] at this; cases this)]
            · go_wp2_with (go_at_call 55; refine (isNode_is false _ _ (decide_eq_false g2)).mono ?_; rintro e w' ⟨rfl, rfl⟩)
              go_ret
              refine ⟨ret_bool ?_, hB.trans ((Below.refl _ wr).alloc hB.size _)⟩
              rw [HM2.out, hrise.out, hno.out (fun h1 => g2 h1.2.1)]
        · go_wp2
          go_ret
          refine ⟨ret_bool ?_, hB⟩
          rw [HM2.out, hrise.out, List.drop_eq_nil_of_le (by omega)]
          rfl
    · have HM2 : Hid (movesOk ⟨k, f, h, r, c, p, b, l⟩ = false) := by
        show _ = _
        rw [HM.out, decide_eq_false hl]; rfl
      go_enter Try.func70, Try.ntmps70
      go_wp2_with (go_at_call 68; refine (within_is false _ _ _ _ (by simp; omega)).mono ?_; rintro e w' ⟨rfl, rfl⟩)
      go_ret
      exact ⟨ret_bool HM2.out.symm, hB0⟩
end Go.Proofs.Ytpecfjejfkcolaa
