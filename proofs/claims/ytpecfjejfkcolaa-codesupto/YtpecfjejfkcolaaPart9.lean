import Derived.Test.YtpecfjejfkcolaaPart8
import Derived.RangeFuncNested
import Derived.RangeFuncBound
import Derived.RangeFuncCalls
import Derived.RangeFuncLeaves
import Derived.Shelf.Abstract
import Derived.Shelf.RegionOpen
import Derived.OwnWalkIn
import Derived.TacticsInMore
import Derived.LoopNIn
import Derived.LoopIn
/- The document's Members and Leader. -/
namespace Go.Proofs.Ytpecfjejfkcolaa
open Go.RowKit
set_option linter.unusedVariables false

theorem memTo_ok {c : ByteArray} {s0 : Nat} : ∀ k s, memTo c s0 k = some s → ∀ j, j < k → okAt c j = true
  | 0, _, _, j, hj => by omega
  | k + 1, s, h, j, hj => by
    rw [memTo] at h
    cases hm : memTo c s0 k with
    | none => rw [hm] at h; cases h
    | some s' =>
      rw [hm] at h
      simp only at h
      split at h
      · rename_i hc
        by_cases e : j = k
        · rw [e]; exact hc.1
        · exact memTo_ok k s' hm j (by omega)
      · cases h
theorem byt_extract (c : ByteArray) (a b i : Nat) (h1 : a + i < b) (h2 : b ≤ c.size) : byt (c.extract a b) i = byt c (a + i) := by
  have hs : i < (c.extract a b).size := by rw [ByteArray.size_extract]; omega
  rw [← byt_eq (c.extract a b) i hs, ← byt_eq c (a + i) (by omega)]
  rw [ByteArray.getElem_extract]

theorem memTo_succ {c : ByteArray} {s0 k s : Nat} (h : memTo c s0 k = some s) : memTo c s0 (k + 1) =
    if okAt c k = true ∧ s.testBit (byt c (3 * k) - 48) = true then some (if (k + 1) % 3 = 0 then countS [blkAt c (k - 2), blkAt c (k - 1), blkAt c k] s else s) else none := by
  rw [memTo, h]
theorem entry_facts (c : ByteArray) (j : Nat) (h : 3 * (j + 1) ≤ c.size) : (c.extract (3 * (j + 1) - 3) (3 * (j + 1))).size = 3 ∧
    byt (c.extract (3 * (j + 1) - 3) (3 * (j + 1))) 0 = byt c (3 * j) ∧ byt (c.extract (3 * (j + 1) - 3) (3 * (j + 1))) 1 = byt c (3 * j + 1) ∧ byt (c.extract (3 * (j + 1) - 3) (3 * (j + 1))) 2 = byt c (3 * j + 2) := by
  have e : 3 * (j + 1) - 3 = 3 * j := by omega
  rw [e]
  refine ⟨by rw [ByteArray.size_extract]; omega, ?_, ?_, ?_⟩
  · rw [byt_extract c _ _ 0 (by omega) h]; rfl
  · rw [byt_extract c _ _ 1 (by omega) h]
  · rw [byt_extract c _ _ 2 (by omega) h]
theorem epoch_facts (c : ByteArray) (j : Nat) (h : 3 * (j + 1) ≤ c.size) (h2 : 2 ≤ j) : (c.extract (3 * (j + 1) - 9) (3 * (j + 1))).size = 9 ∧
    (∀ k, k < 3 → okAt (c.extract (3 * (j + 1) - 9) (3 * (j + 1))) k = okAt c (j - 2 + k)) ∧ blksTo (c.extract (3 * (j + 1) - 9) (3 * (j + 1))) 3 = [blkAt c (j - 2), blkAt c (j - 1), blkAt c j] := by
  have e : 3 * (j + 1) - 9 = 3 * (j - 2) := by omega
  rw [e]
  have hb : ∀ i, i < 9 → byt (c.extract (3 * (j - 2)) (3 * (j + 1))) i = byt c (3 * (j - 2) + i) := fun i hi => byt_extract c _ _ i (by omega) h
  refine ⟨by rw [ByteArray.size_extract]; omega, fun k hk => ?_, ?_⟩
  · unfold okAt
    rw [hb _ (by omega), hb _ (by omega), hb _ (by omega)]
    have e1 : 3 * (j - 2) + 3 * k = 3 * (j - 2 + k) := by omega
    have e2 : 3 * (j - 2) + (3 * k + 1) = 3 * (j - 2 + k) + 1 := by omega
    have e3 : 3 * (j - 2) + (3 * k + 2) = 3 * (j - 2 + k) + 2 := by omega
    rw [e1, e2, e3]
  · have hat : ∀ k, k < 3 → blkAt (c.extract (3 * (j - 2)) (3 * (j + 1))) k = blkAt c (j - 2 + k) := by
      intro k hk
      unfold blkAt
      rw [hb _ (by omega), hb _ (by omega), hb _ (by omega)]
      have e1 : 3 * (j - 2) + 3 * k = 3 * (j - 2 + k) := by omega
      have e2 : 3 * (j - 2) + (3 * k + 1) = 3 * (j - 2 + k) + 1 := by omega
      have e3 : 3 * (j - 2) + (3 * k + 2) = 3 * (j - 2 + k) + 2 := by omega
      rw [e1, e2, e3]
    have e1 : j - 2 + 0 = j - 2 := by omega
    have e2 : j - 2 + 1 = j - 1 := by omega
    have e3 : j - 2 + 2 = j := by omega
    show [blkAt _ 0, blkAt _ 1, blkAt _ 2] = _
    rw [hat 0 (by omega), hat 1 (by omega), hat 2 (by omega), e1, e2, e3]
theorem block_is (b : Bool) (s : ByteArray) (w : World) (hs : s.size = 3) (h : blkOk (byt s 0) (byt s 1) (byt s 2) = b) :
    Calls Try.prog 26 #[.string s] w fun e w' => e = .returned (.bool b) ∧ w' = w := by
  rw [← h]; exact block_any s w hs

theorem bool_tuple {v : Value} {a b : Bool} (h : a = b) : Ending.returned (.tuple #[v, .bool a]) = .returned (.tuple #[v, .bool b]) := by rw [h]
set_option maxRecDepth 100000 in
set_option maxHeartbeats 2000000 in
theorem refMembers_any (n : Nat) (c : ByteArray) (w : World) (hn4 : 4 ≤ n) (hn8 : n < 8) (hc : c.size ≤ maxLen) :
    Calls Try.prog 11 #[.int .i64 n, .string c] w fun e w' => ∃ v, e = .returned (.tuple #[v, .bool (members n c).isSome]) ∧ Below w.heap.size w w' ∧
      (∀ s, members n c = some s → OwnInts w' w.heap.size v (listed s)) ∧ (members n c = none → v = .slice none 0 0) := by
  unfold maxLen at hc
  obtain ⟨i0, hi, hz0, hz1, hz2⟩ := info_parts Try.info3
  go_enter Try.func11, Try.ntmps11
  go_wp2
  go_loopw [6, 7] (fun x i wr => ∃ k : Nat, k ≤ n ∧ i = .int .i64 (k : Int) ∧ OwnInts wr w.heap.size x (List.range k) ∧ Below w.heap.size w wr) (fun _ i _ => n - (intOf i).toNat)
  case atStart => exact ⟨0, Nat.zero_le _, rfl, World.ownsRow_nil _ _ _ _, Below.refl _ _⟩
  case round =>
    obtain ⟨k, hk, rfl, hown, hB⟩ := hrel
    have hsz := hB.size
    have hlen : (castL (List.range k)).length ≤ 7 := by rw [castL_len, List.length_range]; omega
    by_cases hlt : k < n
    · go_wp2_with (at_builtin; refine wpList_append_own _ rfl _ _ 45 rfl w.heap.size 3 i0 (.int .i64 0) 1 8 Try.underlying45 hi hz0 hz1 hz2 rfl (by decide) _ _ _ rfl (World.ownsRow.alloc hown _) ⟨_, 0, none⟩ 1 1 [.int .i64 (k : Int)] rfl rfl (cell_one_new _ _ _) (by simp [Value.oneCell']) (by unfold maxLen; omega) (by omega) (by simp; omega) ?_; intro v' w1 hown' hgrow _)
      have R := push_ints hB hsz hown hown' hgrow
      rw [← castL_snoc, ← List.range_succ] at R
      clear hown' hgrow
      go_wp2
      go_roundw
      case rel => exact ⟨k + 1, by omega, by go_num, R.1, R.2⟩
      case measure => simp [intOf]; omega
    · have HL : Hid (List.range k = listed (firstS n)) := by
        have e : k = n := by omega
        rw [e]; exact (listed_first hn8).symm
      by_cases hok : c.size % 3 = 0 ∧ c.size ≤ 18
      · obtain ⟨h3, h18⟩ := hok
        have HM : Hid (members n c = memTo c (firstS n) (c.size / 3)) := if_pos ⟨h3, h18⟩
        have h3B : (((c.size : Int) % 3) != 0) = false := by simp; omega
        have h18B : decide (18 < (c.size : Int)) = false := by simp; omega
        rw [HL.out] at hown
        go_wp2
        go_loopw [6, 8] (fun x i wr' => ∃ (j s : Nat), j ≤ c.size / 3 ∧ i = .int .i64 ((j + 1 : Nat) : Int) ∧ Hid (memTo c (firstS n) j = some s) ∧ OwnInts wr' w.heap.size x (listed s) ∧ Below w.heap.size w wr') (fun _ i _ => 8 - (intOf i).toNat)
        case atStart => exact ⟨0, firstS n, Nat.zero_le _, rfl, rfl, hown, hB⟩
        case round =>
          obtain ⟨j, s, hj, rfl, hmem, hown2, hB2⟩ := hrel
          have hsz2 := hB2.size
          by_cases hlt2 : j < c.size / 3
          · have hle : 3 * (j + 1) ≤ c.size := by omega
            have hf := entry_facts c j hle
            have hs128 := memTo_lt (firstS_lt hn8) j s hmem.out
            have hok : blkOk (byt c (3 * j)) (byt c (3 * j + 1)) (byt c (3 * j + 2)) = okAt c j := rfl
            have hnone : ∀ d, memTo c (firstS n) (j + 1) = none → j + 1 + d = c.size / 3 → members n c = none := by
              intro d h e
              rw [HM.out, ← e]; exact memTo_none h d
            have HN : Hid (memTo c (firstS n) (j + 1) = none → members n c = none) := fun h => hnone (c.size / 3 - (j + 1)) h (by omega)
            have hst := memTo_succ hmem.out
            have HI := hown2.ints
            have hll : (castL (listed s)).length ≤ 7 := by rw [castL_len]; exact sizeS_le
            have hjB : decide (3 * ((j : Int) + 1) ≤ (c.size : Int)) = true := by simp; omega
            clear hnone
            cases hb : okAt c j with
            | false =>
              have hst' := HN.out (by rw [hst, hb]; simp)
              have HST := hide hst'
              clear hst hst'
              rw [hb] at hok
              have HOKF := hide hok
              have HF := hide hf
              clear hok hf hb
              go_wp2_with (go_at_call 26; refine (block_is false _ _ HF.out.1 (by rw [HF.out.2.1, HF.out.2.2.1, HF.out.2.2.2]; exact HOKF.out)).mono ?_; rintro e w' ⟨rfl, rfl⟩)
              go_ret2
              refine ⟨_, bool_tuple (by rw [HST.out]; rfl), hB2, ?_, fun _ => rfl⟩
              intro s hs; rw [HST.out] at hs; cases hs
            | true =>
              rw [hb] at hok
              have hbd := blkOk_iff.1 hok
              have HOKF := hide hok
              obtain ⟨x, hx⟩ : ∃ x, byt c (3 * j) = x := ⟨_, rfl⟩
              rw [hx] at hbd hst hf
              have hbd' : 48 ≤ x ∧ x ≤ 54 := ⟨hbd.1, hbd.2.1⟩
              have HX := hide hx
              clear hok hbd hx
              have hm := (Walks7.listed (s := s)).mem (n := x - 48) (by omega)
              have hm' : decide (((x : Int) - 48) ∈ castL (listed s)) = s.testBit (x - 48) := by
                rw [← hm, show ((x : Int) - 48) = ((x - 48 : Nat) : Int) by omega]; simp only [mem_castL]
              rw [hb] at hst
              clear hm hb
              obtain ⟨t, hT⟩ : ∃ t, c.extract (3 * (j + 1) - 3) (3 * (j + 1)) = t := ⟨_, rfl⟩
              have HT := hide hT
              rw [hT] at hf
              have hts : t.size = 3 := hf.1
              have h0t : 0 < t.size := by omega
              have e0 : (t[0]'h0t).toNat = x := by rw [byt_eq t 0 h0t, hf.2.1]
              have HF := hide hf
              clear hf
              cases hbit : s.testBit (x - 48) with
              | false =>
                rw [hbit] at hst hm'
                have hst' := HN.out (by rw [hst]; simp)
                have HST := hide hst'
                clear hst hst' hbit
                go_wp2_with (first
                  | (go_at_call 26; refine (block_is true _ _ HF.out.1 (by rw [HF.out.2.1, HF.out.2.2.1, HF.out.2.2.2, ← HX.out]; exact HOKF.out)).mono ?_; rintro e w' ⟨rfl, rfl⟩)
                  | (go_at_call 27; refine (in_is false _ _ _ _ HI (by omega) hm').mono ?_; rintro e w' ⟨rfl, rfl⟩))
                go_ret2
                refine ⟨_, bool_tuple (by rw [HST.out]; rfl), hB2, ?_, fun _ => rfl⟩
                intro s hs; rw [HST.out] at hs; cases hs
              | true =>
                rw [hbit] at hst hm'
                simp only [and_self, if_true] at hst
                clear hbit
                by_cases h33 : (j + 1) % 3 = 0
                · rw [if_pos h33] at hst
                  have hj2 : 2 ≤ j := by omega
                  have HE := hide (epoch_facts c j hle hj2)
                  have HMO := hide (memTo_ok j s hmem.out)
                  have HEO : Hid (∀ k, k < 3 → okAt (c.extract (3 * (j + 1) - 9) (3 * (j + 1))) k = true) := by
                    intro k hk
                    rw [HE.out.2.1 k hk]
                    by_cases e : j - 2 + k = j
                    · rw [e]; exact HOKF.out
                    · exact HMO.out _ (by omega)
                  have HST := hide hst
                  have h33B : ((((j : Int) + 1) % 3) == 0) = true := by simp; omega
                  clear hst
                  go_wp2_with (first
                    | (go_at_call 26; refine (block_is true _ _ HF.out.1 (by rw [HF.out.2.1, HF.out.2.2.1, HF.out.2.2.2, ← HX.out]; exact HOKF.out)).mono ?_; rintro e w' ⟨rfl, rfl⟩)
                    | (go_at_call 27; refine (in_is true _ _ _ _ HI (by omega) hm').mono ?_; rintro e w' ⟨rfl, rfl⟩)
                    | (go_at_call 28; refine (turned_any _ _ s w.heap.size _ _ HE.out.1 HEO.out hs128 rfl hsz2 hown2).mono ?_; rintro e w' ⟨v', rfl, hown3, hB3⟩))
                  have HOW := hide hown3
                  rw [HE.out.2.2] at hown3
                  go_wp2
                  go_roundw
                  case rel => exact ⟨j + 1, _, by omega, by go_num, HST.out, hown3, hB2.trans hB3⟩
                  case measure => simp [intOf]; omega
                · rw [if_neg h33] at hst
                  have HST := hide hst
                  have h33B : ((((j : Int) + 1) % 3) == 0) = false := by simp; omega
                  clear hst
                  go_wp2_with (first
                    | (go_at_call 26; refine (block_is true _ _ HF.out.1 (by rw [HF.out.2.1, HF.out.2.2.1, HF.out.2.2.2, ← HX.out]; exact HOKF.out)).mono ?_; rintro e w' ⟨rfl, rfl⟩)
                    | (go_at_call 27; refine (in_is true _ _ _ _ HI (by omega) hm').mono ?_; rintro e w' ⟨rfl, rfl⟩))
                  go_roundw
                  case rel => exact ⟨j + 1, s, by omega, by go_num, HST.out, hown2, hB2⟩
                  case measure => simp [intOf]; omega
          · have HE : Hid (members n c = some s) := by
              have e : c.size / 3 = j := by omega
              have h := HM.out
              rw [e] at h
              exact h.trans hmem.out
            go_wp2
            go_ret2
            refine ⟨_, bool_tuple (by rw [HE.out]; rfl), hB2, ?_, ?_⟩
            · intro s' hs'; rw [HE.out] at hs'; cases hs'; exact hown2
            · intro h; rw [HE.out] at h; cases h
      · have HM : Hid (members n c = none) := if_neg hok
        by_cases h3 : c.size % 3 = 0
        · have h18 : 18 < c.size := by omega
          clear hok
          go_wp2
          go_ret2
          refine ⟨_, bool_tuple (by rw [HM.out]; rfl), hB, ?_, fun _ => rfl⟩
          intro s hs; rw [HM.out] at hs; cases hs
        · clear hok
          go_wp2
          go_ret2
          refine ⟨_, bool_tuple (by rw [HM.out]; rfl), hB, ?_, fun _ => rfl⟩
          intro s hs; rw [HM.out] at hs; cases hs

/-- the node at a place of the members -/
def leaderOf (s h : Nat) : Nat := (listed s).getD (h % sizeS s) 0
set_option maxHeartbeats 1000000 in
theorem refLeader_any (s base : Nat) (v : Value) (c : ByteArray) (r : Nat) (w : World) (hc : c.size ≤ 18) (hr : r ≤ 9) (hs : 0 < sizeS s) (hv : OwnInts w base v (listed s)) :
    Calls Try.prog 12 #[v, .string c, .int .i64 r] w fun e w' => e = .returned (.int .i64 (leaderOf s (c.size / 3 + 1 + r))) ∧ w' = w := by
  obtain ⟨ao, cap, rfl⟩ := hv.slice
  obtain ⟨g, rfl, hg, hcell⟩ := hv.at hs
  have hlt := Nat.mod_lt (c.size / 3 + 1 + r) hs
  have hck := hcell _ hlt
  have h7 : (listed s).length ≤ 7 := sizeS_le
  obtain ⟨m, hm⟩ : ∃ m, (listed s).length = m := ⟨_, rfl⟩
  have hm' : sizeS s = m := hm
  obtain ⟨L, hL⟩ : ∃ L, (listed s).getD ((c.size / 3 + 1 + r) % sizeS s) 0 = L := ⟨_, rfl⟩
  have HL : Hid (leaderOf s (c.size / 3 + 1 + r) = L) := hL
  rw [hL, hm'] at hck
  rw [hm] at h7 ⊢
  have h0 : 0 < m := by rw [← hm']; exact hs
  clear hcell hlt hL hm hm' hv hs
  have hb0 : (0 : Int) ≤ ((c.size : Int) / 3 + 1 + r) % m := Int.emod_nonneg _ (by omega)
  have hb1 : ((c.size : Int) / 3 + 1 + r) % m < m := Int.emod_lt_of_pos _ (by omega)
  go_enter Try.func12, Try.ntmps12
  go_wp2
  go_ret
  exact ⟨ret_int (by rw [HL.out]), rfl⟩
end Go.Proofs.Ytpecfjejfkcolaa

/- The iterators: a set's nodes; a chain's entries. -/
namespace Go.Proofs.Ytpecfjejfkcolaa
open Go.RowKit Go.Shelf
attribute [local go_sem] Oper.semAt_some
set_option linter.unusedVariables false

/-- what a round keeps: one block -/
def KeepB (B : Nat) (W W' : World) : Prop := W'.heap[B]? = W.heap[B]?
theorem keepB_t {B : Nat} {X Y Z : World} (h : KeepB B X Y) (k : KeepB B Y Z) : KeepB B X Z := Eq.trans k h
theorem keepB_b {B : Nat} {w : World} (hB : B < w.heap.size) : ∀ (W : World) (l : Nat) (o o' : Obj), w.heap.size ≤ l → W.heap[l]? = some o → o.isCells = false → o.isWalk = false → KeepB B W (W.putObj l o') :=
  fun _ _ _ _ hl _ _ _ => World.putObj_heap_other (by omega)

theorem has_is (b : Bool) (s : Nat) (hs : s < 128) (n : Int) (w : World) (h : hasS s n = b) :
    Calls Try.prog 41 #[.int .i64 (s : Int), .int .i64 n] w fun e w' => e = .returned (.bool b) ∧ w' = w := by
  rw [← h]; exact has_any s hs n w

abbrev encN (x : Fin 7) : Array Value := #[.int .i64 (x.1 : Int)]

set_option maxRecDepth 100000 in
set_option maxHeartbeats 1000000 in
theorem nodes1_in (n : Nat) (hn : 1 ≤ n) (l Bn s : Nat) (hs : s < 128) (J Jx : List (Fin 7) → World → Prop)
    (hY : ∀ pre x W, J pre W → pre.length < sizeS s → YieldAt Fence.wide (n - 1) Try.prog l (encN x) W fun e W' =>
      (e = .returned (.bool true) ∧ J (pre ++ [x]) W' ∧ KeepB Bn W W') ∨ (e = .returned (.bool false) ∧ Jx (pre ++ [x]) W'))
    (W : World) (hBn : Boxed W Bn 66 (.int .i64 (s : Int))) (h0 : J [] W) :
    CallsIn Fence.wide n Try.prog 44 #[.func (.yield l) #[] #[], .pointer (some ⟨Bn, 0, none⟩)] W fun e W' => (∃ v, e = .returned v) ∧
      ((∃ ys, ys.map Fin.val = listed s ∧ J ys W') ∨ (∃ pre, pre.map Fin.val <+: listed s ∧ Jx pre W')) := by
  refine callsIn_of_wp Try.func44 rfl trivial ?_ rfl
  simp only [Try.ntmps44, List.size_toArray, List.length_cons, List.length_nil, Nat.reduceAdd, Nat.reduceSub, Array.replicate_succ, Array.replicate_zero, List.push_toArray, List.append_toArray, List.nil_append, List.cons_append]
  gi_wp2
  gi_loopw [4] (fun i wr => ∃ (k : Nat) (pre : List (Fin 7)), k ≤ 7 ∧ i = .int .i64 (k : Int) ∧ Hid (pre.map Fin.val = listedTo s k) ∧ J pre wr ∧ Boxed wr Bn 66 (.int .i64 (s : Int)))
    (fun i _ => 7 - (intOf i).toNat)
  case atStart => exact ⟨0, [], by omega, rfl, rfl, h0, hBn⟩
  case round =>
    obtain ⟨k, pre, hk, rfl, hpre, hJ, hbox⟩ := hrel
    have hc := hbox.cell
    by_cases hlt : k < 7
    · have hhas : hasS s (k : Int) = s.testBit k := by simp [hasS]; omega
      have hst := listedTo_succ s k
      cases hb : s.testBit k with
      | true =>
        rw [hb] at hhas
        rw [if_pos hb] at hst
        have hfull : Hid (listedTo s (k + 1) <+: listed s) := by
          show ((List.range (k + 1)).filter _) <+: ((List.range 7).filter _)
          have e : List.range 7 = List.range (k + 1) ++ (List.range (7 - (k + 1))).map (fun i => (k + 1) + i) := by
            rw [← List.range_add]; congr 1; omega
          rw [e, List.filter_append]
          exact List.prefix_append _ _
        have hpl : pre.length < sizeS s := by
          have h1 := hfull.out.length_le
          rw [hst, ← hpre.out] at h1
          simp only [List.length_append, List.length_map, List.length_cons, List.length_nil] at h1
          exact h1
        obtain ⟨fn, tmps, assign, body, hy, hR⟩ := hY pre ⟨k, hlt⟩ wr hJ hpl
        have HST := hide hst
        clear hst hb
        dsimp only [encN] at hy
        gi_wp2_with (refine ⟨trivial, ?_⟩; gi_at_call 41; refine (callsIn_wide.2 (has_is true s hs k _ hhas)).mono ?_; rintro e w' ⟨rfl, rfl⟩)
        refine hR.mono ?_
        rintro e W3 (⟨rfl, hJ3, hk3⟩ | ⟨rfl, hJx3⟩)
        · gi_wp2
          go_roundw
          case rel => exact ⟨k + 1, _, by omega, by go_num, by rw [HST.out, List.map_append, hpre.out]; rfl, hJ3, Eq.trans hk3 hbox⟩
          case measure => simp [intOf]; omega
        · gi_wp2
          refine bodyPost_ret (results_none rfl _ _ _) rfl ?_
          refine ⟨⟨_, rfl⟩, .inr ⟨_, ?_, hJx3⟩⟩
          have e : (pre ++ [(⟨k, hlt⟩ : Fin 7)]).map Fin.val = listedTo s (k + 1) := by rw [HST.out, List.map_append, hpre.out]; rfl
          rw [e]; exact hfull.out
      | false =>
        rw [hb] at hhas
        rw [if_neg (by simp [hb])] at hst
        have HST := hide hst
        clear hst hb
        gi_wp2_with (refine ⟨trivial, ?_⟩; gi_at_call 41; refine (callsIn_wide.2 (has_is false s hs k _ hhas)).mono ?_; rintro e w' ⟨rfl, rfl⟩)
        refine ⟨fun _ h => (by cases h), ?_⟩
        gi_wp2
        go_roundw
        case rel => exact ⟨k + 1, _, by omega, by go_num, by rw [HST.out]; exact hpre.out, hJ, hbox⟩
        case measure => simp [intOf]; omega
    · have HE : Hid (listedTo s k = listed s) := by
        have e : k = 7 := by omega
        rw [e]; rfl
      gi_wp2
      go_end0
      exact ⟨⟨_, rfl⟩, .inl ⟨pre, by rw [hpre.out, HE.out], hJ⟩⟩

/-- **s.Nodes() HANDS BACK A VALUE THAT GOES THROUGH THE SET** -/
theorem nodes_stops (n : Nat) (hn : 1 ≤ n) (Bn s : Nat) (hs : s < 128) (w : World) (hBn : Boxed w Bn 66 (.int .i64 (s : Int))) :
    SeqStopsK Fence.wide n Try.prog 44 #[.pointer (some ⟨Bn, 0, none⟩)] encN (KeepB Bn) (fun ys => ys.map Fin.val = listed s) (fun pre => pre.map Fin.val <+: listed s) (sizeS s) w :=
  fun l J Jx W hW _ _ hY h0 => nodes1_in n hn l Bn s hs J Jx hY W ((hW.block Bn hBn.lt).trans hBn) h0

/-- a chain's entries, by their places -/
abbrev encE (c : ByteArray) {m : Nat} (x : Fin m) : Array Value := #[.int .i64 ((x.1 : Int) + 1), .string (c.extract (x.1 * 3) ((x.1 + 1) * 3))]

theorem blocks_is (m : Nat) (s : ByteArray) (w : World) (hs : s.size ≤ maxLen) (h : s.size / 3 = m) :
    Calls Try.prog 37 #[.string s] w fun e w' => e = .returned (.int .i64 (m : Int)) ∧ w' = w := by
  rw [← h]; exact blocks_any s w hs

set_option maxRecDepth 100000 in
set_option maxHeartbeats 1000000 in
theorem entries1_in (n : Nat) (hn : 1 ≤ n) (l Bn m : Nat) (c : ByteArray) (hc18 : c.size ≤ 18) (hm : c.size / 3 = m) (J Jx : List (Fin m) → World → Prop)
    (hY : ∀ pre x W, J pre W → pre.length < m → YieldAt Fence.wide (n - 1) Try.prog l (encE c x) W fun e W' =>
      (e = .returned (.bool true) ∧ J (pre ++ [x]) W' ∧ KeepB Bn W W') ∨ (e = .returned (.bool false) ∧ Jx (pre ++ [x]) W'))
    (W : World) (hBn : Boxed W Bn 9 (.string c)) (h0 : J [] W) :
    CallsIn Fence.wide n Try.prog 53 #[.func (.yield l) #[] #[], .pointer (some ⟨Bn, 0, none⟩)] W fun e W' => (∃ v, e = .returned v) ∧
      ((∃ ys, ys.map Fin.val = List.range m ∧ J ys W') ∨ (∃ pre, pre.map Fin.val <+: List.range m ∧ Jx pre W')) := by
  have hc0 := hBn.cell
  have hmx : m ≤ 6 := by omega
  have HM := hide hm
  have hm2 : m * 3 ≤ c.size := by omega
  clear hm
  refine callsIn_of_wp Try.func53 rfl trivial ?_ rfl
  simp only [Try.ntmps53, List.size_toArray, List.length_cons, List.length_nil, Nat.reduceAdd, Nat.reduceSub, Array.replicate_succ, Array.replicate_zero, List.push_toArray, List.append_toArray, List.nil_append, List.cons_append]
  gi_wp2_with (refine ⟨trivial, ?_⟩; gi_at_call 37; refine (callsIn_wide.2 (blocks_is m c _ (by unfold maxLen; omega) HM.out)).mono ?_; rintro e w' ⟨rfl, rfl⟩)
  clear hc0
  gi_loopw [6] (fun i wr => ∃ (k : Nat) (pre : List (Fin m)), k ≤ m ∧ i = .int .i64 (k : Int) ∧ Hid (pre.map Fin.val = List.range k) ∧ J pre wr ∧ Boxed wr Bn 9 (.string c))
    (fun i _ => m - (intOf i).toNat)
  case atStart => exact ⟨0, [], by omega, rfl, rfl, h0, hBn⟩
  case round =>
    obtain ⟨k, pre, hk, rfl, hpre, hJ, hbox⟩ := hrel
    have hc := hbox.cell
    by_cases hlt : k < m
    · have hpl : pre.length < m := by
        have h := congrArg List.length hpre.out
        simp only [List.length_map, List.length_range] at h
        omega
      have HP : Hid ((pre ++ [(⟨k, hlt⟩ : Fin m)]).map Fin.val = List.range (k + 1)) := by
        show _ = _
        rw [List.range_succ, ← hpre.out]; simp
      obtain ⟨fn, tmps, assign, body, hy, hR⟩ := hY pre ⟨k, hlt⟩ wr hJ hpl
      have HJ := hide hJ
      clear hJ
      dsimp only [encE] at hy
      gi_wp2
      refine hR.mono ?_
      rintro e W3 (⟨rfl, hJ3, hk3⟩ | ⟨rfl, hJx3⟩)
      · gi_wp2
        go_roundw
        case rel => exact ⟨k + 1, _, by omega, by go_num, HP.out, hJ3, Eq.trans hk3 hbox⟩
        case measure => simp [intOf]; omega
      · gi_wp2
        refine bodyPost_ret (results_none rfl _ _ _) rfl ?_
        refine ⟨⟨_, rfl⟩, .inr ⟨_, ?_, hJx3⟩⟩
        rw [HP.out]
        have e : List.range m = List.range (k + 1) ++ (List.range (m - (k + 1))).map (fun i => (k + 1) + i) := by
          rw [← List.range_add]; congr 1; omega
        rw [e]; exact List.prefix_append _ _
    · have e : k = m := by omega
      have HE := hide e
      clear e
      gi_wp2
      go_end0
      exact ⟨⟨_, rfl⟩, .inl ⟨pre, by rw [hpre.out, HE.out], hJ⟩⟩
theorem entries_stops (n : Nat) (hn : 1 ≤ n) (Bn m : Nat) (c : ByteArray) (hc18 : c.size ≤ 18) (hm : c.size / 3 = m) (w : World) (hBn : Boxed w Bn 9 (.string c)) :
    SeqStopsK Fence.wide n Try.prog 53 #[.pointer (some ⟨Bn, 0, none⟩)] (encE c (m := m)) (KeepB Bn) (fun ys => ys.map Fin.val = List.range m) (fun pre => pre.map Fin.val <+: List.range m) m w :=
  fun l J Jx W hW _ _ hY h0 => entries1_in n hn l Bn m c hc18 hm J Jx hY W ((hW.block Bn hBn.lt).trans hBn) h0
end Go.Proofs.Ytpecfjejfkcolaa
