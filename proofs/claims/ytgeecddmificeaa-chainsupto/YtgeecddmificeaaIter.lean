/- The iterators: a set's nodes; a chain's entries. -/
import Derived.Test.YtgeecddmificeaaRefMembers
import Derived.RangeFuncNested
import Derived.RangeFuncBound
import Derived.RangeFuncCalls
import Derived.RangeFuncLeaves
import Derived.Shelf.Abstract
import Derived.Shelf.RegionOpen
import Derived.OwnWalkIn
import Derived.TacticsInMore
import Derived.LoopNIn
import Derived.LoopIn
namespace Go.Proofs.Ytgeecddmificeaa
open Go.RowKit Go.Shelf
attribute [local go_sem] Oper.semAt_some
set_option linter.unusedVariables false

/-- what a round keeps: one block -/
def KeepB (B : Nat) (W W' : World) : Prop := W'.heap[B]? = W.heap[B]?
theorem keepB_t {B : Nat} {X Y Z : World} (h : KeepB B X Y) (k : KeepB B Y Z) : KeepB B X Z := Eq.trans k h
theorem keepB_b {B : Nat} {w : World} (hB : B < w.heap.size) : ∀ (W : World) (l : Nat) (o o' : Obj), w.heap.size ≤ l → W.heap[l]? = some o → o.isCells = false → o.isWalk = false → KeepB B W (W.putObj l o') :=
  fun _ _ _ _ hl _ _ _ => World.putObj_heap_other (by omega)

theorem has_is (b : Bool) (s : Nat) (hs : s < 128) (n : Int) (w : World) (h : hasS s n = b) :
    Calls Try.prog 41 #[.int .i64 (s : Int), .int .i64 n] w fun e w' => e = .returned (.bool b) ∧ w' = w := by
  rw [← h]; exact has_any s hs n w

abbrev encN (x : Fin 7) : Array Value := #[.int .i64 (x.1 : Int)]

set_option maxRecDepth 100000 in
set_option maxHeartbeats 1000000 in
theorem nodes1_in (n : Nat) (hn : 1 ≤ n) (l Bn s : Nat) (hs : s < 128) (J Jx : List (Fin 7) → World → Prop)
    (hY : ∀ pre x W, J pre W → pre.length < sizeS s → YieldAt Fence.wide (n - 1) Try.prog l (encN x) W fun e W' =>
      (e = .returned (.bool true) ∧ J (pre ++ [x]) W' ∧ KeepB Bn W W') ∨ (e = .returned (.bool false) ∧ Jx (pre ++ [x]) W'))
    (W : World) (hBn : Boxed W Bn 66 (.int .i64 (s : Int))) (h0 : J [] W) :
    CallsIn Fence.wide n Try.prog 44 #[.func (.yield l) #[] #[], .pointer (some ⟨Bn, 0, none⟩)] W fun e W' => (∃ v, e = .returned v) ∧
      ((∃ ys, ys.map Fin.val = listed s ∧ J ys W') ∨ (∃ pre, pre.map Fin.val <+: listed s ∧ Jx pre W')) := by
  refine callsIn_of_wp Try.func44 rfl trivial ?_ rfl
  simp only [Try.ntmps44, List.size_toArray, List.length_cons, List.length_nil, Nat.reduceAdd, Nat.reduceSub, Array.replicate_succ, Array.replicate_zero, List.push_toArray, List.append_toArray, List.nil_append, List.cons_append]
  gi_wp2
  gi_loopw [4] (fun i wr => ∃ (k : Nat) (pre : List (Fin 7)), k ≤ 7 ∧ i = .int .i64 (k : Int) ∧ Hid (pre.map Fin.val = listedTo s k) ∧ J pre wr ∧ Boxed wr Bn 66 (.int .i64 (s : Int)))
    (fun i _ => 7 - (intOf i).toNat)
  case atStart => exact ⟨0, [], by omega, rfl, rfl, h0, hBn⟩
  case round =>
    obtain ⟨k, pre, hk, rfl, hpre, hJ, hbox⟩ := hrel
    have hc := hbox.cell
    by_cases hlt : k < 7
    · have hhas : hasS s (k : Int) = s.testBit k := by simp [hasS]; omega
      have hst := listedTo_succ s k
      cases hb : s.testBit k with
      | true =>
        rw [hb] at hhas
        rw [if_pos hb] at hst
        have hfull : Hid (listedTo s (k + 1) <+: listed s) := by
          show ((List.range (k + 1)).filter _) <+: ((List.range 7).filter _)
          have e : List.range 7 = List.range (k + 1) ++ (List.range (7 - (k + 1))).map (fun i => (k + 1) + i) := by
            rw [← List.range_add]; congr 1; omega
          rw [e, List.filter_append]
          exact List.prefix_append _ _
        have hpl : pre.length < sizeS s := by
          have h1 := hfull.out.length_le
          rw [hst, ← hpre.out] at h1
          simp only [List.length_append, List.length_map, List.length_cons, List.length_nil] at h1
          exact h1
        obtain ⟨fn, tmps, assign, body, hy, hR⟩ := hY pre ⟨k, hlt⟩ wr hJ hpl
        have HST := hide hst
        clear hst hb
        dsimp only [encN] at hy
        gi_wp2_with (refine ⟨trivial, ?_⟩; gi_at_call 41; refine (callsIn_wide.2 (has_is true s hs k _ hhas)).mono ?_; rintro e w' ⟨rfl, rfl⟩)
        refine hR.mono ?_
        rintro e W3 (⟨rfl, hJ3, hk3⟩ | ⟨rfl, hJx3⟩)
        · gi_wp2
          go_roundw
          case rel => exact ⟨k + 1, _, by omega, by go_num, by rw [HST.out, List.map_append, hpre.out]; rfl, hJ3, Eq.trans hk3 hbox⟩
          case measure => simp [intOf]; omega
        · gi_wp2
          refine bodyPost_ret (results_none rfl _ _ _) rfl ?_
          refine ⟨⟨_, rfl⟩, .inr ⟨_, ?_, hJx3⟩⟩
          have e : (pre ++ [(⟨k, hlt⟩ : Fin 7)]).map Fin.val = listedTo s (k + 1) := by rw [HST.out, List.map_append, hpre.out]; rfl
          rw [e]; exact hfull.out
      | false =>
        rw [hb] at hhas
        rw [if_neg (by simp [hb])] at hst
        have HST := hide hst
        clear hst hb
        gi_wp2_with (refine ⟨trivial, ?_⟩; gi_at_call 41; refine (callsIn_wide.2 (has_is false s hs k _ hhas)).mono ?_; rintro e w' ⟨rfl, rfl⟩)
        refine ⟨fun _ h => (by cases h), ?_⟩
        gi_wp2
        go_roundw
        case rel => exact ⟨k + 1, _, by omega, by go_num, by rw [HST.out]; exact hpre.out, hJ, hbox⟩
        case measure => simp [intOf]; omega
    · have HE : Hid (listedTo s k = listed s) := by
        have e : k = 7 := by omega
        rw [e]; rfl
      gi_wp2
      go_end0
      exact ⟨⟨_, rfl⟩, .inl ⟨pre, by rw [hpre.out, HE.out], hJ⟩⟩

/-- **s.Nodes() HANDS BACK A VALUE THAT GOES THROUGH THE SET** -/
theorem nodes_stops (n : Nat) (hn : 1 ≤ n) (Bn s : Nat) (hs : s < 128) (w : World) (hBn : Boxed w Bn 66 (.int .i64 (s : Int))) :
    SeqStopsK Fence.wide n Try.prog 44 #[.pointer (some ⟨Bn, 0, none⟩)] encN (KeepB Bn) (fun ys => ys.map Fin.val = listed s) (fun pre => pre.map Fin.val <+: listed s) (sizeS s) w :=
  fun l J Jx W hW _ _ hY h0 => nodes1_in n hn l Bn s hs J Jx hY W ((hW.block Bn hBn.lt).trans hBn) h0

/-- a chain's entries, by their places -/
abbrev encE (c : ByteArray) {m : Nat} (x : Fin m) : Array Value := #[.int .i64 ((x.1 : Int) + 1), .string (c.extract (x.1 * 3) ((x.1 + 1) * 3))]

theorem blocks_is (m : Nat) (s : ByteArray) (w : World) (hs : s.size ≤ maxLen) (h : s.size / 3 = m) :
    Calls Try.prog 37 #[.string s] w fun e w' => e = .returned (.int .i64 (m : Int)) ∧ w' = w := by
  rw [← h]; exact blocks_any s w hs

set_option maxRecDepth 100000 in
set_option maxHeartbeats 1000000 in
theorem entries1_in (n : Nat) (hn : 1 ≤ n) (l Bn m : Nat) (c : ByteArray) (hc18 : c.size ≤ 18) (hm : c.size / 3 = m) (J Jx : List (Fin m) → World → Prop)
    (hY : ∀ pre x W, J pre W → pre.length < m → YieldAt Fence.wide (n - 1) Try.prog l (encE c x) W fun e W' =>
      (e = .returned (.bool true) ∧ J (pre ++ [x]) W' ∧ KeepB Bn W W') ∨ (e = .returned (.bool false) ∧ Jx (pre ++ [x]) W'))
    (W : World) (hBn : Boxed W Bn 9 (.string c)) (h0 : J [] W) :
    CallsIn Fence.wide n Try.prog 53 #[.func (.yield l) #[] #[], .pointer (some ⟨Bn, 0, none⟩)] W fun e W' => (∃ v, e = .returned v) ∧
      ((∃ ys, ys.map Fin.val = List.range m ∧ J ys W') ∨ (∃ pre, pre.map Fin.val <+: List.range m ∧ Jx pre W')) := by
  have hc0 := hBn.cell
  have hmx : m ≤ 6 := by omega
  have HM := hide hm
  have hm2 : m * 3 ≤ c.size := by omega
  clear hm
  refine callsIn_of_wp Try.func53 rfl trivial ?_ rfl
  simp only [Try.ntmps53, List.size_toArray, List.length_cons, List.length_nil, Nat.reduceAdd, Nat.reduceSub, Array.replicate_succ, Array.replicate_zero, List.push_toArray, List.append_toArray, List.nil_append, List.cons_append]
  gi_wp2_with (refine ⟨trivial, ?_⟩; gi_at_call 37; refine (callsIn_wide.2 (blocks_is m c _ (by unfold maxLen; omega) HM.out)).mono ?_; rintro e w' ⟨rfl, rfl⟩)
  clear hc0
  gi_loopw [6] (fun i wr => ∃ (k : Nat) (pre : List (Fin m)), k ≤ m ∧ i = .int .i64 (k : Int) ∧ Hid (pre.map Fin.val = List.range k) ∧ J pre wr ∧ Boxed wr Bn 9 (.string c))
    (fun i _ => m - (intOf i).toNat)
  case atStart => exact ⟨0, [], by omega, rfl, rfl, h0, hBn⟩
  case round =>
    obtain ⟨k, pre, hk, rfl, hpre, hJ, hbox⟩ := hrel
    have hc := hbox.cell
    by_cases hlt : k < m
    · have hpl : pre.length < m := by
        have h := congrArg List.length hpre.out
        simp only [List.length_map, List.length_range] at h
        omega
      have HP : Hid ((pre ++ [(⟨k, hlt⟩ : Fin m)]).map Fin.val = List.range (k + 1)) := by
        show _ = _
        rw [List.range_succ, ← hpre.out]; simp
      obtain ⟨fn, tmps, assign, body, hy, hR⟩ := hY pre ⟨k, hlt⟩ wr hJ hpl
      have HJ := hide hJ
      clear hJ
      dsimp only [encE] at hy
      gi_wp2
      refine hR.mono ?_
      rintro e W3 (⟨rfl, hJ3, hk3⟩ | ⟨rfl, hJx3⟩)
      · gi_wp2
        go_roundw
        case rel => exact ⟨k + 1, _, by omega, by go_num, HP.out, hJ3, Eq.trans hk3 hbox⟩
        case measure => simp [intOf]; omega
      · gi_wp2
        refine bodyPost_ret (results_none rfl _ _ _) rfl ?_
        refine ⟨⟨_, rfl⟩, .inr ⟨_, ?_, hJx3⟩⟩
        rw [HP.out]
        have e : List.range m = List.range (k + 1) ++ (List.range (m - (k + 1))).map (fun i => (k + 1) + i) := by
          rw [← List.range_add]; congr 1; omega
        rw [e]; exact List.prefix_append _ _
    · have e : k = m := by omega
      have HE := hide e
      clear e
      gi_wp2
      go_end0
      exact ⟨⟨_, rfl⟩, .inl ⟨pre, by rw [hpre.out, HE.out], hJ⟩⟩
theorem entries_stops (n : Nat) (hn : 1 ≤ n) (Bn m : Nat) (c : ByteArray) (hc18 : c.size ≤ 18) (hm : c.size / 3 = m) (w : World) (hBn : Boxed w Bn 9 (.string c)) :
    SeqStopsK Fence.wide n Try.prog 53 #[.pointer (some ⟨Bn, 0, none⟩)] (encE c (m := m)) (KeepB Bn) (fun ys => ys.map Fin.val = List.range m) (fun pre => pre.map Fin.val <+: List.range m) m w :=
  fun l J Jx W hW _ _ hY h0 => entries1_in n hn l Bn m c hc18 hm J Jx hY W ((hW.block Bn hBn.lt).trans hBn) h0
end Go.Proofs.Ytgeecddmificeaa
