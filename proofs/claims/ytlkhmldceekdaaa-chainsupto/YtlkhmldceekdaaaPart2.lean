import Derived.Test.YtlkhmldceekdaaaPart1
import Derived.RangeFuncNested
import Derived.RangeFuncBound
import Derived.RangeFuncCalls
import Derived.RangeFuncLeaves
import Derived.Shelf.Abstract
import Derived.Shelf.RegionOpen
import Derived.OwnWalkIn
import Derived.TacticsInMore
import Derived.LoopNIn
import Derived.LoopIn
/- The document's Members and Leader. -/
namespace Go.Proofs.Ytlkhmldceekdaaa
open Go.RowKit
set_option linter.unusedVariables false

theorem memTo_ok {c : ByteArray} {s0 : Nat} : ∀ k s, memTo c s0 k = some s → ∀ j, j < k → okAt c j = true
  | 0, _, _, j, hj => by omega
  | k + 1, s, h, j, hj => by
    rw [memTo] at h
    cases hm : memTo c s0 k with
    | none => rw [hm] at h; cases h
    | some s' =>
      rw [hm] at h
      simp only at h
      split at h
      · rename_i hc
        by_cases e : j = k
        · rw [e]; exact hc.1
        · exact memTo_ok k s' hm j (by omega)
      · cases h
theorem byt_extract (c : ByteArray) (a b i : Nat) (h1 : a + i < b) (h2 : b ≤ c.size) : byt (c.extract a b) i = byt c (a + i) := by
  have hs : i < (c.extract a b).size := by rw [ByteArray.size_extract]; omega
  rw [← byt_eq (c.extract a b) i hs, ← byt_eq c (a + i) (by omega)]
  rw [ByteArray.getElem_extract]

theorem memTo_succ {c : ByteArray} {s0 k s : Nat} (h : memTo c s0 k = some s) : memTo c s0 (k + 1) =
    if okAt c k = true ∧ s.testBit (byt c (3 * k) - 48) = true then some (if (k + 1) % 3 = 0 then countS [blkAt c (k - 2), blkAt c (k - 1), blkAt c k] s else s) else none := by
  rw [memTo, h]
theorem entry_facts (c : ByteArray) (j : Nat) (h : 3 * (j + 1) ≤ c.size) : (c.extract (3 * (j + 1) - 3) (3 * (j + 1))).size = 3 ∧
    byt (c.extract (3 * (j + 1) - 3) (3 * (j + 1))) 0 = byt c (3 * j) ∧ byt (c.extract (3 * (j + 1) - 3) (3 * (j + 1))) 1 = byt c (3 * j + 1) ∧ byt (c.extract (3 * (j + 1) - 3) (3 * (j + 1))) 2 = byt c (3 * j + 2) := by
  have e : 3 * (j + 1) - 3 = 3 * j := by omega
  rw [e]
  refine ⟨by rw [ByteArray.size_extract]; omega, ?_, ?_, ?_⟩
  · rw [byt_extract c _ _ 0 (by omega) h]; rfl
  · rw [byt_extract c _ _ 1 (by omega) h]
  · rw [byt_extract c _ _ 2 (by omega) h]
theorem epoch_facts (c : ByteArray) (j : Nat) (h : 3 * (j + 1) ≤ c.size) (h2 : 2 ≤ j) : (c.extract (3 * (j + 1) - 9) (3 * (j + 1))).size = 9 ∧
    (∀ k, k < 3 → okAt (c.extract (3 * (j + 1) - 9) (3 * (j + 1))) k = okAt c (j - 2 + k)) ∧ blksTo (c.extract (3 * (j + 1) - 9) (3 * (j + 1))) 3 = [blkAt c (j - 2), blkAt c (j - 1), blkAt c j] := by
  have e : 3 * (j + 1) - 9 = 3 * (j - 2) := by omega
  rw [e]
  have hb : ∀ i, i < 9 → byt (c.extract (3 * (j - 2)) (3 * (j + 1))) i = byt c (3 * (j - 2) + i) := fun i hi => byt_extract c _ _ i (by omega) h
  refine ⟨by rw [ByteArray.size_extract]; omega, fun k hk => ?_, ?_⟩
  · unfold okAt
    rw [hb _ (by omega), hb _ (by omega), hb _ (by omega)]
    have e1 : 3 * (j - 2) + 3 * k = 3 * (j - 2 + k) := by omega
    have e2 : 3 * (j - 2) + (3 * k + 1) = 3 * (j - 2 + k) + 1 := by omega
    have e3 : 3 * (j - 2) + (3 * k + 2) = 3 * (j - 2 + k) + 2 := by omega
    rw [e1, e2, e3]
  · have hat : ∀ k, k < 3 → blkAt (c.extract (3 * (j - 2)) (3 * (j + 1))) k = blkAt c (j - 2 + k) := by
      intro k hk
      unfold blkAt
      rw [hb _ (by omega), hb _ (by omega), hb _ (by omega)]
      have e1 : 3 * (j - 2) + 3 * k = 3 * (j - 2 + k) := by omega
      have e2 : 3 * (j - 2) + (3 * k + 1) = 3 * (j - 2 + k) + 1 := by omega
      have e3 : 3 * (j - 2) + (3 * k + 2) = 3 * (j - 2 + k) + 2 := by omega
      rw [e1, e2, e3]
    have e1 : j - 2 + 0 = j - 2 := by omega
    have e2 : j - 2 + 1 = j - 1 := by omega
    have e3 : j - 2 + 2 = j := by omega
    show [blkAt _ 0, blkAt _ 1, blkAt _ 2] = _
    rw [hat 0 (by omega), hat 1 (by omega), hat 2 (by omega), e1, e2, e3]
theorem block_is (b : Bool) (s : ByteArray) (w : World) (hs : s.size = 3) (h : blkOk (byt s 0) (byt s 1) (byt s 2) = b) :
    Calls Try.prog 26 #[.string s] w fun e w' => e = .returned (.bool b) ∧ w' = w := by
  rw [← h]; exact block_any s w hs

theorem bool_tuple {v : Value} {a b : Bool} (h : a = b) : Ending.returned (.tuple #[v, .bool a]) = .returned (.tuple #[v, .bool b]) := by rw [h]
set_option maxRecDepth 100000 in
set_option maxHeartbeats 2000000 in
theorem refMembers_any (n : Nat) (c : ByteArray) (w : World) (hn4 : 4 ≤ n) (hn8 : n < 8) (hc : c.size ≤ maxLen) :
    Calls Try.prog 11 #[.int .i64 n, .string c] w fun e w' => ∃ v, e = .returned (.tuple #[v, .bool (members n c).isSome]) ∧ Below w.heap.size w w' ∧
      (∀ s, members n c = some s → OwnInts w' w.heap.size v (listed s)) ∧ (members n c = none → v = .slice none 0 0) := by
  unfold maxLen at hc
  obtain ⟨i0, hi, hz0, hz1, hz2⟩ := info_parts Try.info3
  go_enter Try.func11, Try.ntmps11
  go_wp2
  go_loopw [6, 7] (fun x i wr => ∃ k : Nat, k ≤ n ∧ i = .int .i64 (k : Int) ∧ OwnInts wr w.heap.size x (List.range k) ∧ Below w.heap.size w wr) (fun _ i _ => n - (intOf i).toNat)
  case atStart => exact ⟨0, Nat.zero_le _, rfl, World.ownsRow_nil _ _ _ _, Below.refl _ _⟩
  case round =>
    obtain ⟨k, hk, rfl, hown, hB⟩ := hrel
    have hsz := hB.size
    have hlen : (castL (List.range k)).length ≤ 7 := by rw [castL_len, List.length_range]; omega
    by_cases hlt : k < n
    · go_wp2_with (at_builtin; refine wpList_append_own _ rfl _ _ 45 rfl w.heap.size 3 i0 (.int .i64 0) 1 8 Try.underlying45 hi hz0 hz1 hz2 rfl (by decide) _ _ _ rfl (World.ownsRow.alloc hown _) ⟨_, 0, none⟩ 1 1 [.int .i64 (k : Int)] rfl rfl (cell_one_new _ _ _) (by simp [Value.oneCell']) (by unfold maxLen; omega) (by omega) (by simp; omega) ?_; intro v' w1 hown' hgrow _)
      have R := push_ints hB hsz hown hown' hgrow
      rw [← castL_snoc, ← List.range_succ] at R
      clear hown' hgrow
      go_wp2
      go_roundw
      case rel => exact ⟨k + 1, by omega, by go_num, R.1, R.2⟩
      case measure => simp [intOf]; omega
    · have HL : Hid (List.range k = listed (firstS n)) := by
        have e : k = n := by omega
        rw [e]; exact (listed_first hn8).symm
      by_cases hok : c.size % 3 = 0 ∧ c.size ≤ 18
      · obtain ⟨h3, h18⟩ := hok
        have HM : Hid (members n c = memTo c (firstS n) (c.size / 3)) := if_pos ⟨h3, h18⟩
        have h3B : (((c.size : Int) % 3) != 0) = false := by simp; omega
        have h18B : decide (18 < (c.size : Int)) = false := by simp; omega
        rw [HL.out] at hown
        go_wp2
        go_loopw [6, 8] (fun x i wr' => ∃ (j s : Nat), j ≤ c.size / 3 ∧ i = .int .i64 ((j + 1 : Nat) : Int) ∧ Hid (memTo c (firstS n) j = some s) ∧ OwnInts wr' w.heap.size x (listed s) ∧ Below w.heap.size w wr') (fun _ i _ => 8 - (intOf i).toNat)
        case atStart => exact ⟨0, firstS n, Nat.zero_le _, rfl, rfl, hown, hB⟩
        case round =>
          obtain ⟨j, s, hj, rfl, hmem, hown2, hB2⟩ := hrel
          have hsz2 := hB2.size
          by_cases hlt2 : j < c.size / 3
          · have hle : 3 * (j + 1) ≤ c.size := by omega
            have hf := entry_facts c j hle
            have hs128 := memTo_lt (firstS_lt hn8) j s hmem.out
            have hok : blkOk (byt c (3 * j)) (byt c (3 * j + 1)) (byt c (3 * j + 2)) = okAt c j := rfl
            have hnone : ∀ d, memTo c (firstS n) (j + 1) = none → j + 1 + d = c.size / 3 → members n c = none := by
              intro d h e
              rw [HM.out, ← e]; exact memTo_none h d
            have HN : Hid (memTo c (firstS n) (j + 1) = none → members n c = none) := fun h => hnone (c.size / 3 - (j + 1)) h (by omega)
            have hst := memTo_succ hmem.out
            have HI := hown2.ints
            have hll : (castL (listed s)).length ≤ 7 := by rw [castL_len]; exact sizeS_le
            have hjB : decide (3 * ((j : Int) + 1) ≤ (c.size : Int)) = true := by simp; omega
            clear hnone
            cases hb : okAt c j with
            | false =>
              have hst' := HN.out (by rw [hst, hb]; simp)
              have HST := hide hst'
              clear hst hst'
              rw [hb] at hok
              have HOKF := hide hok
              have HF := hide hf
              clear hok hf hb
              go_wp2_with (go_at_call 26; refine (block_is false _ _ HF.out.1 (by rw [HF.out.2.1, HF.out.2.2.1, HF.out.2.2.2]; exact HOKF.out)).mono ?_; rintro e w' ⟨rfl, rfl⟩)
              go_ret2
              refine ⟨_, bool_tuple (by rw [HST.out]; rfl), hB2, ?_, fun _ => rfl⟩
              intro s hs; rw [HST.out] at hs; cases hs
            | true =>
              rw [hb] at hok
              have hbd := blkOk_iff.1 hok
              have HOKF := hide hok
              obtain ⟨x, hx⟩ : ∃ x, byt c (3 * j) = x := ⟨_, rfl⟩
              rw [hx] at hbd hst hf
              have hbd' : 48 ≤ x ∧ x ≤ 54 := ⟨hbd.1, hbd.2.1⟩
              have HX := hide hx
              clear hok hbd hx
              have hm := (Walks7.listed (s := s)).mem (n := x - 48) (by omega)
              have hm' : decide (((x : Int) - 48) ∈ castL (listed s)) = s.testBit (x - 48) := by
                rw [← hm, show ((x : Int) - 48) = ((x - 48 : Nat) : Int) by omega]; simp only [mem_castL]
              rw [hb] at hst
              clear hm hb
              obtain ⟨t, hT⟩ : ∃ t, c.extract (3 * (j + 1) - 3) (3 * (j + 1)) = t := ⟨_, rfl⟩
              have HT := hide hT
              rw [hT] at hf
              have hts : t.size = 3 := hf.1
              have h0t : 0 < t.size := by omega
              have e0 : (t[0]'h0t).toNat = x := by rw [byt_eq t 0 h0t, hf.2.1]
              have HF := hide hf
              clear hf
              cases hbit : s.testBit (x - 48) with
              | false =>
                rw [hbit] at hst hm'
                have hst' := HN.out (by rw [hst]; simp)
                have HST := hide hst'
                clear hst hst' hbit
                go_wp2_with (first
                  | (go_at_call 26; refine (block_is true _ _ HF.out.1 (by rw [HF.out.2.1, HF.out.2.2.1, HF.out.2.2.2, ← HX.out]; exact HOKF.out)).mono ?_; rintro e w' ⟨rfl, rfl⟩)
                  | (go_at_call 27; refine (in_is false _ _ _ _ HI (by omega) hm').mono ?_; rintro e w' ⟨rfl, rfl⟩))
                go_ret2
                refine ⟨_, bool_tuple (by rw [HST.out]; rfl), hB2, ?_, fun _ => rfl⟩
                intro s hs; rw [HST.out] at hs; cases hs
              | true =>
                rw [hbit] at hst hm'
                simp only [and_self, if_true] at hst
                clear hbit
                by_cases h33 : (j + 1) % 3 = 0
                · rw [if_pos h33] at hst
                  have hj2 : 2 ≤ j := by omega
                  have HE := hide (epoch_facts c j hle hj2)
                  have HMO := hide (memTo_ok j s hmem.out)
                  have HEO : Hid (∀ k, k < 3 → okAt (c.extract (3 * (j + 1) - 9) (3 * (j + 1))) k = true) := by
                    intro k hk
                    rw [HE.out.2.1 k hk]
                    by_cases e : j - 2 + k = j
                    · rw [e]; exact HOKF.out
                    · exact HMO.out _ (by omega)
                  have HST := hide hst
                  have h33B : ((((j : Int) + 1) % 3) == 0) = true := by simp; omega
                  clear hst
                  go_wp2_with (first
                    | (go_at_call 26; refine (block_is true _ _ HF.out.1 (by rw [HF.out.2.1, HF.out.2.2.1, HF.out.2.2.2, ← HX.out]; exact HOKF.out)).mono ?_; rintro e w' ⟨rfl, rfl⟩)
                    | (go_at_call 27; refine (in_is true _ _ _ _ HI (by omega) hm').mono ?_; rintro e w' ⟨rfl, rfl⟩)
                    | (go_at_call 28; refine (turned_any _ _ s w.heap.size _ _ HE.out.1 HEO.out hs128 rfl hsz2 hown2).mono ?_; rintro e w' ⟨v', rfl, hown3, hB3⟩))
                  have HOW := hide hown3
                  rw [HE.out.2.2] at hown3
                  go_wp2
                  go_roundw
                  case rel => exact ⟨j + 1, _, by omega, by go_num, HST.out, hown3, hB2.trans hB3⟩
                  case measure => simp [intOf]; omega
                · rw [if_neg h33] at hst
                  have HST := hide hst
                  have h33B : ((((j : Int) + 1) % 3) == 0) = false := by simp; omega
                  clear hst
                  go_wp2_with (first
                    | (go_at_call 26; refine (block_is true _ _ HF.out.1 (by rw [HF.out.2.1, HF.out.2.2.1, HF.out.2.2.2, ← HX.out]; exact HOKF.out)).mono ?_; rintro e w' ⟨rfl, rfl⟩)
                    | (go_at_call 27; refine (in_is true _ _ _ _ HI (by omega) hm').mono ?_; rintro e w' ⟨rfl, rfl⟩))
                  go_roundw
                  case rel => exact ⟨j + 1, s, by omega, by go_num, HST.out, hown2, hB2⟩
                  case measure => simp [intOf]; omega
          · have HE : Hid (members n c = some s) := by
              have e : c.size / 3 = j := by omega
              have h := HM.out
              rw [e] at h
              exact h.trans hmem.out
            go_wp2
            go_ret2
            refine ⟨_, bool_tuple (by rw [HE.out]; rfl), hB2, ?_, ?_⟩
            · intro s' hs'; rw [HE.out] at hs'; cases hs'; exact hown2
            · intro h; rw [HE.out] at h; cases h
      · have HM : Hid (members n c = none) := if_neg hok
        by_cases h3 : c.size % 3 = 0
        · have h18 : 18 < c.size := by omega
          clear hok
          go_wp2
          go_ret2
          refine ⟨_, bool_tuple (by rw [HM.out]; rfl), hB, ?_, fun _ => rfl⟩
          intro s hs; rw [HM.out] at hs; cases hs
        · clear hok
          go_wp2
          go_ret2
          refine ⟨_, bool_tuple (by rw [HM.out]; rfl), hB, ?_, fun _ => rfl⟩
          intro s hs; rw [HM.out] at hs; cases hs

/-- the node at a place of the members -/
def leaderOf (s h : Nat) : Nat := (listed s).getD (h % sizeS s) 0
set_option maxHeartbeats 1000000 in
theorem refLeader_any (s base : Nat) (v : Value) (c : ByteArray) (r : Nat) (w : World) (hc : c.size ≤ 18) (hr : r ≤ 9) (hs : 0 < sizeS s) (hv : OwnInts w base v (listed s)) :
    Calls Try.prog 12 #[v, .string c, .int .i64 r] w fun e w' => e = .returned (.int .i64 (leaderOf s (c.size / 3 + 1 + r))) ∧ w' = w := by
  obtain ⟨ao, cap, rfl⟩ := hv.slice
  obtain ⟨g, rfl, hg, hcell⟩ := hv.at hs
  have hlt := Nat.mod_lt (c.size / 3 + 1 + r) hs
  have hck := hcell _ hlt
  have h7 : (listed s).length ≤ 7 := sizeS_le
  obtain ⟨m, hm⟩ : ∃ m, (listed s).length = m := ⟨_, rfl⟩
  have hm' : sizeS s = m := hm
  obtain ⟨L, hL⟩ : ∃ L, (listed s).getD ((c.size / 3 + 1 + r) % sizeS s) 0 = L := ⟨_, rfl⟩
  have HL : Hid (leaderOf s (c.size / 3 + 1 + r) = L) := hL
  rw [hL, hm'] at hck
  rw [hm] at h7 ⊢
  have h0 : 0 < m := by rw [← hm']; exact hs
  clear hcell hlt hL hm hm' hv hs
  have hb0 : (0 : Int) ≤ ((c.size : Int) / 3 + 1 + r) % m := Int.emod_nonneg _ (by omega)
  have hb1 : ((c.size : Int) / 3 + 1 + r) % m < m := Int.emod_lt_of_pos _ (by omega)
  go_enter Try.func12, Try.ntmps12
  go_wp2
  go_ret
  exact ⟨ret_int (by rw [HL.out]), rfl⟩
end Go.Proofs.Ytlkhmldceekdaaa

/- The iterators: a set's nodes; a chain's entries. -/
namespace Go.Proofs.Ytlkhmldceekdaaa
open Go.RowKit Go.Shelf
attribute [local go_sem] Oper.semAt_some
set_option linter.unusedVariables false

/-- what a round keeps: one block -/
def KeepB (B : Nat) (W W' : World) : Prop := W'.heap[B]? = W.heap[B]?
theorem keepB_t {B : Nat} {X Y Z : World} (h : KeepB B X Y) (k : KeepB B Y Z) : KeepB B X Z := Eq.trans k h
theorem keepB_b {B : Nat} {w : World} (hB : B < w.heap.size) : ∀ (W : World) (l : Nat) (o o' : Obj), w.heap.size ≤ l → W.heap[l]? = some o → o.isCells = false → o.isWalk = false → KeepB B W (W.putObj l o') :=
  fun _ _ _ _ hl _ _ _ => World.putObj_heap_other (by omega)

theorem has_is (b : Bool) (s : Nat) (hs : s < 128) (n : Int) (w : World) (h : hasS s n = b) :
    Calls Try.prog 41 #[.int .i64 (s : Int), .int .i64 n] w fun e w' => e = .returned (.bool b) ∧ w' = w := by
  rw [← h]; exact has_any s hs n w

abbrev encN (x : Fin 7) : Array Value := #[.int .i64 (x.1 : Int)]

set_option maxRecDepth 100000 in
set_option maxHeartbeats 1000000 in
theorem nodes1_in (n : Nat) (hn : 1 ≤ n) (l Bn s : Nat) (hs : s < 128) (J Jx : List (Fin 7) → World → Prop)
    (hY : ∀ pre x W, J pre W → pre.length < sizeS s → YieldAt Fence.wide (n - 1) Try.prog l (encN x) W fun e W' =>
      (e = .returned (.bool true) ∧ J (pre ++ [x]) W' ∧ KeepB Bn W W') ∨ (e = .returned (.bool false) ∧ Jx (pre ++ [x]) W'))
    (W : World) (hBn : Boxed W Bn 66 (.int .i64 (s : Int))) (h0 : J [] W) :
    CallsIn Fence.wide n Try.prog 44 #[.func (.yield l) #[] #[], .pointer (some ⟨Bn, 0, none⟩)] W fun e W' => (∃ v, e = .returned v) ∧
      ((∃ ys, ys.map Fin.val = listed s ∧ J ys W') ∨ (∃ pre, pre.map Fin.val <+: listed s ∧ Jx pre W')) := by
  refine callsIn_of_wp Try.func44 rfl trivial ?_ rfl
  simp only [Try.ntmps44, List.size_toArray, List.length_cons, List.length_nil, Nat.reduceAdd, Nat.reduceSub, Array.replicate_succ, Array.replicate_zero, List.push_toArray, List.append_toArray, List.nil_append, List.cons_append]
  gi_wp2
  gi_loopw [4] (fun i wr => ∃ (k : Nat) (pre : List (Fin 7)), k ≤ 7 ∧ i = .int .i64 (k : Int) ∧ Hid (pre.map Fin.val = listedTo s k) ∧ J pre wr ∧ Boxed wr Bn 66 (.int .i64 (s : Int)))
    (fun i _ => 7 - (intOf i).toNat)
  case atStart => exact ⟨0, [], by omega, rfl, rfl, h0, hBn⟩
  case round =>
    obtain ⟨k, pre, hk, rfl, hpre, hJ, hbox⟩ := hrel
    have hc := hbox.cell
    by_cases hlt : k < 7
    · have hhas : hasS s (k : Int) = s.testBit k := by simp [hasS]; omega
      have hst := listedTo_succ s k
      cases hb : s.testBit k with
      | true =>
        rw [hb] at hhas
        rw [if_pos hb] at hst
        have hfull : Hid (listedTo s (k + 1) <+: listed s) := by
          show ((List.range (k + 1)).filter _) <+: ((List.range 7).filter _)
          have e : List.range 7 = List.range (k + 1) ++ (List.range (7 - (k + 1))).map (fun i => (k + 1) + i) := by
            rw [← List.range_add]; congr 1; omega
          rw [e, List.filter_append]
          exact List.prefix_append _ _
        have hpl : pre.length < sizeS s := by
          have h1 := hfull.out.length_le
          rw [hst, ← hpre.out] at h1
          simp only [List.length_append, List.length_map, List.length_cons, List.length_nil] at h1
          exact h1
        obtain ⟨fn, tmps, assign, body, hy, hR⟩ := hY pre ⟨k, hlt⟩ wr hJ hpl
        have HST := hide hst
        clear hst hb
        dsimp only [encN] at hy
        gi_wp2_with (refine ⟨trivial, ?_⟩; gi_at_call 41; refine (callsIn_wide.2 (has_is true s hs k _ hhas)).mono ?_; rintro e w' ⟨rfl, rfl⟩)
        refine hR.mono ?_
        rintro e W3 (⟨rfl, hJ3, hk3⟩ | ⟨rfl, hJx3⟩)
        · gi_wp2
          go_roundw
          case rel => exact ⟨k + 1, _, by omega, by go_num, by rw [HST.out, List.map_append, hpre.out]; rfl, hJ3, Eq.trans hk3 hbox⟩
          case measure => simp [intOf]; omega
        · gi_wp2
          refine bodyPost_ret (results_none rfl _ _ _) rfl ?_
          refine ⟨⟨_, rfl⟩, .inr ⟨_, ?_, hJx3⟩⟩
          have e : (pre ++ [(⟨k, hlt⟩ : Fin 7)]).map Fin.val = listedTo s (k + 1) := by rw [HST.out, List.map_append, hpre.out]; rfl
          rw [e]; exact hfull.out
      | false =>
        rw [hb] at hhas
        rw [if_neg (by simp [hb])] at hst
        have HST := hide hst
        clear hst hb
        gi_wp2_with (refine ⟨trivial, ?_⟩; gi_at_call 41; refine (callsIn_wide.2 (has_is false s hs k _ hhas)).mono ?_; rintro e w' ⟨rfl, rfl⟩)
        refine ⟨fun _ h => (by cases h), ?_⟩
        gi_wp2
        go_roundw
        case rel => exact ⟨k + 1, _, by omega, by go_num, by rw [HST.out]; exact hpre.out, hJ, hbox⟩
        case measure => simp [intOf]; omega
    · have HE : Hid (listedTo s k = listed s) := by
        have e : k = 7 := by omega
        rw [e]; rfl
      gi_wp2
      go_end0
      exact ⟨⟨_, rfl⟩, .inl ⟨pre, by rw [hpre.out, HE.out], hJ⟩⟩

/-- **s.Nodes() HANDS BACK A VALUE THAT GOES THROUGH THE SET** -/
theorem nodes_stops (n : Nat) (hn : 1 ≤ n) (Bn s : Nat) (hs : s < 128) (w : World) (hBn : Boxed w Bn 66 (.int .i64 (s : Int))) :
    SeqStopsK Fence.wide n Try.prog 44 #[.pointer (some ⟨Bn, 0, none⟩)] encN (KeepB Bn) (fun ys => ys.map Fin.val = listed s) (fun pre => pre.map Fin.val <+: listed s) (sizeS s) w :=
  fun l J Jx W hW _ _ hY h0 => nodes1_in n hn l Bn s hs J Jx hY W ((hW.block Bn hBn.lt).trans hBn) h0

/-- a chain's entries, by their places -/
abbrev encE (c : ByteArray) {m : Nat} (x : Fin m) : Array Value := #[.int .i64 ((x.1 : Int) + 1), .string (c.extract (x.1 * 3) ((x.1 + 1) * 3))]

theorem blocks_is (m : Nat) (s : ByteArray) (w : World) (hs : s.size ≤ maxLen) (h : s.size / 3 = m) :
    Calls Try.prog 37 #[.string s] w fun e w' => e = .returned (.int .i64 (m : Int)) ∧ w' = w := by
  rw [← h]; exact blocks_any s w hs

set_option maxRecDepth 100000 in
set_option maxHeartbeats 1000000 in
theorem entries1_in (n : Nat) (hn : 1 ≤ n) (l Bn m : Nat) (c : ByteArray) (hc18 : c.size ≤ 18) (hm : c.size / 3 = m) (J Jx : List (Fin m) → World → Prop)
    (hY : ∀ pre x W, J pre W → pre.length < m → YieldAt Fence.wide (n - 1) Try.prog l (encE c x) W fun e W' =>
      (e = .returned (.bool true) ∧ J (pre ++ [x]) W' ∧ KeepB Bn W W') ∨ (e = .returned (.bool false) ∧ Jx (pre ++ [x]) W'))
    (W : World) (hBn : Boxed W Bn 9 (.string c)) (h0 : J [] W) :
    CallsIn Fence.wide n Try.prog 53 #[.func (.yield l) #[] #[], .pointer (some ⟨Bn, 0, none⟩)] W fun e W' => (∃ v, e = .returned v) ∧
      ((∃ ys, ys.map Fin.val = List.range m ∧ J ys W') ∨ (∃ pre, pre.map Fin.val <+: List.range m ∧ Jx pre W')) := by
  have hc0 := hBn.cell
  have hmx : m ≤ 6 := by omega
  have HM := hide hm
  have hm2 : m * 3 ≤ c.size := by omega
  clear hm
  refine callsIn_of_wp Try.func53 rfl trivial ?_ rfl
  simp only [Try.ntmps53, List.size_toArray, List.length_cons, List.length_nil, Nat.reduceAdd, Nat.reduceSub, Array.replicate_succ, Array.replicate_zero, List.push_toArray, List.append_toArray, List.nil_append, List.cons_append]
  gi_wp2_with (refine ⟨trivial, ?_⟩; gi_at_call 37; refine (callsIn_wide.2 (blocks_is m c _ (by unfold maxLen; omega) HM.out)).mono ?_; rintro e w' ⟨rfl, rfl⟩)
  clear hc0
  gi_loopw [6] (fun i wr => ∃ (k : Nat) (pre : List (Fin m)), k ≤ m ∧ i = .int .i64 (k : Int) ∧ Hid (pre.map Fin.val = List.range k) ∧ J pre wr ∧ Boxed wr Bn 9 (.string c))
    (fun i _ => m - (intOf i).toNat)
  case atStart => exact ⟨0, [], by omega, rfl, rfl, h0, hBn⟩
  case round =>
    obtain ⟨k, pre, hk, rfl, hpre, hJ, hbox⟩ := hrel
    have hc := hbox.cell
    by_cases hlt : k < m
    · have hpl : pre.length < m := by
        have h := congrArg List.length hpre.out
        simp only [List.length_map, List.length_range] at h
        omega
      have HP : Hid ((pre ++ [(⟨k, hlt⟩ : Fin m)]).map Fin.val = List.range (k + 1)) := by
        show _ = _
        rw [List.range_succ, ← hpre.out]; simp
      obtain ⟨fn, tmps, assign, body, hy, hR⟩ := hY pre ⟨k, hlt⟩ wr hJ hpl
      have HJ := hide hJ
      clear hJ
      dsimp only [encE] at hy
      gi_wp2
      refine hR.mono ?_
      rintro e W3 (⟨rfl, hJ3, hk3⟩ | ⟨rfl, hJx3⟩)
      · gi_wp2
        go_roundw
        case rel => exact ⟨k + 1, _, by omega, by go_num, HP.out, hJ3, Eq.trans hk3 hbox⟩
        case measure => simp [intOf]; omega
      · gi_wp2
        refine bodyPost_ret (results_none rfl _ _ _) rfl ?_
        refine ⟨⟨_, rfl⟩, .inr ⟨_, ?_, hJx3⟩⟩
        rw [HP.out]
        have e : List.range m = List.range (k + 1) ++ (List.range (m - (k + 1))).map (fun i => (k + 1) + i) := by
          rw [← List.range_add]; congr 1; omega
        rw [e]; exact List.prefix_append _ _
    · have e : k = m := by omega
      have HE := hide e
      clear e
      gi_wp2
      go_end0
      exact ⟨⟨_, rfl⟩, .inl ⟨pre, by rw [hpre.out, HE.out], hJ⟩⟩
theorem entries_stops (n : Nat) (hn : 1 ≤ n) (Bn m : Nat) (c : ByteArray) (hc18 : c.size ≤ 18) (hm : c.size / 3 = m) (w : World) (hBn : Boxed w Bn 9 (.string c)) :
    SeqStopsK Fence.wide n Try.prog 53 #[.pointer (some ⟨Bn, 0, none⟩)] (encE c (m := m)) (KeepB Bn) (fun ys => ys.map Fin.val = List.range m) (fun pre => pre.map Fin.val <+: List.range m) m w :=
  fun l J Jx W hW _ _ hY h0 => entries1_in n hn l Bn m c hc18 hm J Jx hY W ((hW.block Bn hBn.lt).trans hBn) h0
end Go.Proofs.Ytlkhmldceekdaaa

/- chains.nodeAt, moot.Members' own loop. -/
namespace Go.Proofs.Ytlkhmldceekdaaa
open Go.RowKit Go.Shelf
attribute [local go_sem] Oper.semAt_some
set_option linter.unusedVariables false

theorem boxed_keep_set {W : World} {B b : Nat} {t : TypeId} {v : Value} (h : Boxed W B t v) (hne : B ≠ b) (u : Value) : Boxed (W.setCell ⟨b, 0, none⟩ u) B t v :=
  (Below.heap_setCell W ⟨b, 0, none⟩ u B hne).trans h
theorem keepB_set {W : World} {B b : Nat} (hne : B ≠ b) (u : Value) : KeepB B W (W.setCell ⟨b, 0, none⟩ u) := Below.heap_setCell W ⟨b, 0, none⟩ u B hne
theorem boxed_own' {β : Type} (B : Nat) (t : TypeId) (f : β → Value) : Own (fun (s : β) W => Boxed W B t (f s)) := by
  rintro s X Y row hv hg hrow
  refine hv.kept hg (fun e' => ?_)
  obtain ⟨o, ho, hc⟩ := hrow B e'.symm
  rw [show X.heap[B]? = _ from hv] at ho; cases ho; cases hc
theorem boxed_put {W : World} {B l : Nat} {t : TypeId} {v : Value} {o : Obj} (h : Boxed W B t v) (o' : Obj) (hl : W.heap[l]? = some o) (ho : o.isCells = false) : Boxed (W.putObj l o') B t v :=
  Own.putObj (boxed_own' B t (fun _ : Unit => v)) o' (s := ()) h hl ho

set_option maxRecDepth 100000 in
set_option maxHeartbeats 2000000 in
theorem nodeAt_any (s p : Nat) (hs : s < 128) (hp : p < sizeS s) (w : World) :
    Calls Try.prog 61 #[.int .i64 (s : Int), .int .i64 (p : Int)] w fun e w' => e = .returned (.int .i64 (((listed s).getD p 0 : Nat) : Int)) ∧ Below w.heap.size w w' := by
  have hp7 : sizeS s ≤ 7 := sizeS_le
  refine (callsIn_wide (n := 6)).1 ?_
  refine callsIn_of_wp_marks Try.func61 rfl trivial ?_ rfl
  simp only [Try.ntmps61, List.size_toArray, List.length_cons, List.length_nil, Nat.reduceAdd, Nat.reduceSub, Array.replicate_succ, Array.replicate_zero, List.push_toArray, List.append_toArray, List.nil_append, List.cons_append]
  gi_wp2_with (refine ⟨trivial, ?_⟩; gi_at_call 24; refine (callsIn_wide.2 (nodes_any _ _)).mono ?_; rintro e w' ⟨rfl, rfl⟩)
  have b0 := Boxed.new w 3 (.int .i64 (p : Int))
  have b1 := Boxed.new (w.alloc (.cells #[.int .i64 (p : Int)] 3)) 3 (.int .i64 0)
  have b2 := Boxed.new ((w.alloc (.cells #[.int .i64 (p : Int)] 3)).alloc (.cells #[.int .i64 0] 3)) 66 (.int .i64 (s : Int))
  simp only [World.size_alloc] at b1 b2
  have hB0 : Below w.heap.size w (((w.alloc (.cells #[.int .i64 (p : Int)] 3)).alloc (.cells #[.int .i64 0] 3)).alloc (.cells #[.int .i64 (s : Int)] 66)) := (((Below.refl _ w).alloc (Nat.le_refl _) _).alloc (by simp) _).alloc (by simp; omega) _
  refine wpIn_rangeFunc_ownG rfl (by omega) (gf := 44) (lb := #[.pointer (some ⟨w.heap.size + 1 + 1, 0, none⟩)]) rfl trivial (enters_of Try.func44 (by kernel_rfl) rfl)
    (nodes_stops 5 (by omega) (w.heap.size + 1 + 1) s hs _ b2) keepB_t (keepB_b (by simp)) (Below.refl _ _) (fun _ => rfl)
    (fun pre W => ((pre.length ≤ p ∧ Boxed W w.heap.size 3 (.int .i64 ((p : Int) - (pre.length : Int)))) ∧ Boxed W (w.heap.size + 1) 3 (.int .i64 0)) ∧ Below w.heap.size w W)
    (fun c pre W => (c = .ret ∧ ∃ x : Fin 7, pre[p]? = some x ∧ Boxed W (w.heap.size + 1) 3 (.int .i64 (x.1 : Int))) ∧ Below w.heap.size w W)
    (OwnFrom.and (Own.from (fun s A B row hs hg hr => ⟨⟨hs.1.1, boxed_own' _ _ (fun pre : List (Fin 7) => Value.int .i64 ((p : Int) - (pre.length : Int))) s A B row hs.1.2 hg hr⟩, boxed_own' _ _ (fun _ : List (Fin 7) => Value.int .i64 0) s A B row hs.2 hg hr⟩) _) (ownFrom_below (Nat.le_refl _) (by simp; omega)))
    (fun c => OwnFrom.and (Own.from (fun s A B row hs hg hr => by
      obtain ⟨h1, x, h2, h3⟩ := hs
      exact ⟨h1, x, h2, boxed_own' _ _ (fun _ : Unit => Value.int .i64 (x.1 : Int)) () A B row h3 hg hr⟩) _) (ownFrom_below (Nat.le_refl _) (by simp; omega)))
    ⟨⟨⟨by simp, by simpa using (b0.alloc _).alloc _⟩, b1.alloc _⟩, hB0⟩
    (fun x => { tmps := #[.int .i64 (s : Int), .int .i64 (p : Int), undef, .pointer (some ⟨w.heap.size, 0, none⟩), .pointer (some ⟨w.heap.size + 1, 0, none⟩), .int .i64 (x.1 : Int), .int .i64 (s : Int), .func (.func 44) #[] #[.pointer (some ⟨w.heap.size + 1 + 1, 0, none⟩)], .int .i64 (x.1 : Int), undef, undef, undef, undef, undef], defers := [] }) ?assign ?body ?done ?stop
  case assign =>
    intro l x W K hK
    gi_wp2
    exact hK
  case body =>
    rintro l pre x W ⟨⟨⟨hle, hb0⟩, hb1⟩, hB⟩ hlt
    have hc0 := hb0.cell
    have hf0 := hb0.frozen
    have hc1 := hb1.cell
    have hf1 := hb1.frozen
    by_cases hz : pre.length = p
    · have hzB : ((p : Int) - (pre.length : Int) == 0) = true := by simp; omega
      have HZ := hide hz
      clear hz
      gi_wp2
      refine ⟨(KeepsOthers.setCell _ _ _).from _, ⟨rfl, x, ?_, hb1.set _⟩, hB.setCell (p := ⟨w.heap.size + 1, 0, none⟩) (by simp) _⟩
      rw [← HZ.out]; simp
    · have hzB : ((p : Int) - (pre.length : Int) == 0) = false := by simp; omega
      gi_wp2
      refine ⟨(KeepsOthers.setCell _ _ _).from _, keepB_set (by omega) _, ⟨⟨by simp; omega, ?_⟩, boxed_keep_set hb1 (by omega) _⟩, hB.setCell (p := ⟨w.heap.size, 0, none⟩) (by simp) _⟩
      have e : (p : Int) - ((pre ++ [x]).length : Int) = (p : Int) - (pre.length : Int) - 1 := by simp; omega
      rw [e]
      exact hb0.set _
  case done =>
    rintro D ys W hD hys ⟨⟨⟨hle, _⟩, _⟩, _⟩ hK
    have h := congrArg List.length hys
    rw [List.length_map] at h
    have h2 : sizeS s = (listed s).length := rfl
    omega
  case stop =>
    rintro D c pre W hD hpre ⟨⟨rfl, x, hx, hb1⟩, hB⟩ hK
    gi_wp2
    refine ⟨by simp, .inl ⟨_, _, rfl, run_takeDeferred hK, ?_⟩⟩
    have hc5 := (boxed_put hb1 (.deferred none) hK rfl).cell
    have hx2 : (listed s)[p]? = some x.1 := by
      obtain ⟨r, hr⟩ := hpre
      rw [← hr, List.getElem?_append_left, List.getElem?_map, hx]
      · rfl
      · rw [List.length_map]; exact (List.getElem?_eq_some_iff.1 hx).1
    refine ⟨.int .i64 (x.1 : Int), ?_, ret_int (by rw [List.getD_eq_getElem?_getD, hx2]; rfl), hB.trans (belowK_b (w := w) (Nat.le_refl _) W D _ _ (by simp at hD; omega) hK rfl rfl)⟩
    simp [results, Try.f61, go_sem, hc5]
end Go.Proofs.Ytlkhmldceekdaaa

/- chains.voters. -/
namespace Go.Proofs.Ytlkhmldceekdaaa
open Go.RowKit Go.Shelf
set_option linter.unusedVariables false

/-- a block's cells, and those of several -/
def blkCells (b : Blk) : List Value := [.int .i64 (b.1 : Int), .int .u8 (b.2.1 : Int), .int .i64 (b.2.2 : Int)]
def rowCells : List Blk → List Value
  | [] => []
  | b :: r => blkCells b ++ rowCells r
theorem rowCells_len : ∀ l, (rowCells l).length = l.length * 3
  | [] => rfl
  | b :: r => by simp [rowCells, blkCells, rowCells_len r]; omega
theorem rowCells_snoc : ∀ (l : List Blk) (b : Blk), rowCells (l ++ [b]) = rowCells l ++ blkCells b
  | [], b => by simp [rowCells]
  | a :: r, b => by simp [rowCells, rowCells_snoc r b]
theorem rowCells_at : ∀ (l : List Blk) (k i : Nat) (hk : k < l.length) (hi : i < 3), (rowCells l)[k * 3 + i]? = (blkCells l[k])[i]?
  | [], k, i, hk, _ => by simp at hk
  | b :: r, 0, i, hk, hi => by
    simp only [rowCells, Nat.zero_mul, Nat.zero_add, List.getElem_cons_zero]
    exact List.getElem?_append_left (by simpa [blkCells] using hi)
  | b :: r, k + 1, i, hk, hi => by
    have h := rowCells_at r k i (by simpa using hk) hi
    simp only [rowCells, List.getElem_cons_succ]
    rw [← h, List.getElem?_append_right (by simp [blkCells]; omega)]
    congr 1
    simp [blkCells]
    omega
theorem votesS_snoc (b : Blk) (sign node : Nat) : ∀ (r : List Blk) (acc : Nat), votesS (r ++ [b]) sign node acc =
    (if b.2.1 = sign ∧ b.2.2 = node then withS (votesS r sign node acc) b.1 else votesS r sign node acc)
  | [], _ => rfl
  | _ :: r, acc => votesS_snoc b sign node r _
theorem votesS_take {ep : List Blk} {k sign node : Nat} (hk : k < ep.length) : votesS (ep.take (k + 1)) sign node 0 =
    (if ep[k].2.1 = sign ∧ ep[k].2.2 = node then withS (votesS (ep.take k) sign node 0) ep[k].1 else votesS (ep.take k) sign node 0) := by
  rw [List.take_succ_eq_append_getElem hk, votesS_snoc]

/-- a slice of blocks of the call's own -/
def OwnBlks (w : World) (base : Nat) (v : Value) (l : List Blk) : Prop := w.ownsRow base 88 3 v l.length (rowCells l)
theorem OwnBlks.slice {w : World} {base : Nat} {v : Value} {l : List Blk} (h : OwnBlks w base v l) : ∃ ao cap, v = .slice ao l.length cap := by
  rcases h.2 with ⟨rfl, h0⟩ | ⟨g, cap, cur, rfl, _⟩
  · exact ⟨none, 0, by rw [h0]⟩
  · exact ⟨_, _, rfl⟩
theorem OwnBlks.at {w : World} {base n cap : Nat} {ao : Option Addr} {l : List Blk} (h : OwnBlks w base (.slice ao n cap) l) (hl : 0 < l.length) :
    ∃ g, ao = some ⟨g, 0, none⟩ ∧ g < w.heap.size ∧ ∀ k i, k < l.length → i < 3 → w.cell? ⟨g, k * 3 + i, none⟩ = (rowCells l)[k * 3 + i]? := by
  have h' := h
  rcases h.2 with ⟨_, h0⟩ | ⟨g, cap', cur, e, hg, hh, _⟩
  · omega
  · injection e with e1 e2 e3
    subst e1 e2
    exact ⟨g, rfl, lt_of_block hh, fun k i hk hi => World.ownsRow.cellAt h' _ (by omega)⟩

set_option maxRecDepth 100000 in
set_option maxHeartbeats 1000000 in
theorem voters_any (ep : List Blk) (base : Nat) (v : Value) (sign node : Nat) (w : World) (hv : OwnBlks w base v ep) (hb : ∀ b ∈ ep, b.1 < 7) (hlen : ep.length ≤ 6) (hg : sign < 256) (hn : node < 7) :
    Calls Try.prog 56 #[v, .int .u8 (sign : Int), .int .i64 (node : Int)] w fun e w' => e = .returned (.int .i64 (votesS ep sign node 0 : Nat)) ∧ Below w.heap.size w w' := by
  obtain ⟨ao, cap, rfl⟩ := hv.slice
  by_cases h0 : 0 < ep.length
  · obtain ⟨g, rfl, hgl, hcell⟩ := hv.at h0
    have HC := hide hcell
    have HB := hide hb
    clear hcell hb hv
    go_enter Try.func56, Try.ntmps56
    go_wp2
    go_loopw [7, 12] (fun x i wr => ∃ (k : Nat), k ≤ ep.length ∧ i = .int .i64 (k : Int) ∧ x = .int .i64 (votesS (ep.take k) sign node 0 : Nat) ∧ Below w.heap.size w wr) (fun _ i _ => ep.length - (intOf i).toNat)
    case atStart => exact ⟨0, by omega, rfl, rfl, Below.refl _ _⟩
    case round =>
      obtain ⟨k, hk, rfl, rfl, hB⟩ := hrel
      have hlt128 := votesS_lt (ep.take k) sign node (fun b hb' => HB.out b (List.mem_of_mem_take hb'))
      have hsz := hB.size
      by_cases hlt : k < ep.length
      · have hst := votesS_take (sign := sign) (node := node) hlt
        have hm7 := HB.out ep[k] (List.getElem_mem hlt)
        have cell : ∀ i, i < 3 → wr.cell? ⟨g, k * 3 + i, none⟩ = (blkCells ep[k])[i]? := fun i hi => by
          rw [hB.cell (p := ⟨g, k * 3 + i, none⟩) hgl, HC.out k i hlt hi, rowCells_at ep k i hlt hi]
        have c0 := cell 0 (by omega)
        have c1 := cell 1 (by omega)
        have c2 := cell 2 (by omega)
        obtain ⟨⟨m, sg, ab⟩, hbk⟩ : ∃ b, ep[k] = b := ⟨_, rfl⟩
        rw [hbk] at hst hm7 c0 c1 c2
        simp only [blkCells, List.getElem?_cons_zero, List.getElem?_cons_succ, Nat.add_zero] at c0 c1 c2 hst hm7
        clear cell hbk
        have HST := hide hst
        clear hst
        go_wp2_with (go_at_call 57; refine (with_any _ m hlt128 hm7 _).mono ?_; rintro e w' ⟨rfl, rfl⟩)
        · have h1 : (sg : Int) = (sign : Int) := by assumption
          have h2 : ((ab : Int) == (node : Int)) = true := by assumption
          have h3 : sg = sign ∧ ab = node := ⟨by omega, by have := eq_of_beq h2; omega⟩
          go_roundw
          case rel => exact ⟨k + 1, by omega, by go_num, by rw [HST.out, if_pos h3], hB.alloc hsz _⟩
          case measure => simp [intOf]; omega
        · have h2 : ((ab : Int) == (node : Int)) = false := by assumption
          have h3 : ¬ (sg = sign ∧ ab = node) := by rintro ⟨_, e⟩; rw [e] at h2; simp at h2
          go_roundw
          case rel => exact ⟨k + 1, by omega, by go_num, by rw [HST.out, if_neg h3], hB.alloc hsz _⟩
          case measure => simp [intOf]; omega
        · have h1 : ¬ (sg : Int) = (sign : Int) := by assumption
          have h3 : ¬ (sg = sign ∧ ab = node) := by rintro ⟨e, _⟩; exact h1 (by rw [e])
          go_roundw
          case rel => exact ⟨k + 1, by omega, by go_num, by rw [HST.out, if_neg h3], hB.alloc hsz _⟩
          case measure => simp [intOf]; omega
      · have HT : Hid (ep.take k = ep) := List.take_of_length_le (by omega)
        go_wp2
        go_ret
        exact ⟨ret_int (by rw [HT.out]), hB⟩
  · have he : ep = [] := List.length_eq_zero_iff.1 (by omega)
    subst he
    go_enter Try.func56, Try.ntmps56
    go_wp2
    refine wp_loop_rounds 1 ?_
    rw [rounds_succ]
    go_wp2
    go_ret
    exact ⟨rfl, Below.refl _ _⟩
theorem voters_is (sgn : Int) (a : Nat) (ep : List Blk) (base : Nat) (v : Value) (sign node : Nat) (w : World) (hsg : sgn = (sign : Int)) (hv : OwnBlks w base v ep) (hb : ∀ b ∈ ep, b.1 < 7) (hlen : ep.length ≤ 6) (hg : sign < 256) (hn : node < 7) (h : votesS ep sign node 0 = a) :
    Calls Try.prog 56 #[v, .int .u8 sgn, .int .i64 (node : Int)] w fun e w' => e = .returned (.int .i64 (a : Int)) ∧ Below w.heap.size w w' := by
  rw [← h, hsg]; exact voters_any ep base v sign node w hv hb hlen hg hn
theorem size_is (a s : Nat) (h : s < 128) (w : World) (ha : sizeS s = a) :
    Calls Try.prog 23 #[.int .i64 (s : Int)] w fun e w' => e = .returned (.int .i64 (a : Int)) ∧ w' = w := by
  rw [← ha]; exact size_any s h w
end Go.Proofs.Ytlkhmldceekdaaa

/- chains.count. -/
namespace Go.Proofs.Ytlkhmldceekdaaa
open Go.RowKit Go.Shelf
attribute [local go_sem] Oper.semAt_some
set_option linter.unusedVariables false

theorem keepsOthers_of_below {W W' : World} (h : Below W.heap.size W W') : KeepsOthers W W' := ⟨h.size, fun k _ hk _ => (h.block k (lt_of_block hk)).trans hk⟩
theorem boxed_below {W W' : World} {B : Nat} {t : TypeId} {v : Value} (h : Boxed W B t v) (hb : Below W.heap.size W W') : Boxed W' B t v := (hb.block B h.lt).trans h
theorem keepB_below {W W' : World} {B : Nat} (hB : B < W.heap.size) (hb : Below W.heap.size W W') : KeepB B W W' := hb.block B hB

def foldS (ep : List Blk) (s : Nat) (l : List (Fin 7)) : Nat := l.foldl (fun s x => stepS ep s x.1) s
theorem foldS_snoc (ep : List Blk) (s : Nat) (l : List (Fin 7)) (x : Fin 7) : foldS ep s (l ++ [x]) = stepS ep (foldS ep s l) x.1 := by simp [foldS]
theorem foldS_lt {ep : List Blk} {s : Nat} (hs : s < 128) (l : List (Fin 7)) : foldS ep s l < 128 := by
  unfold foldS
  induction l generalizing s with
  | nil => exact hs
  | cons x r ih => exact ih (stepS_lt hs x.2)
theorem foldS_all {ep : List Blk} {s : Nat} {l : List (Fin 7)} (h : l.map Fin.val = listed 127) : foldS ep s l = countS ep s := by
  have h1 : foldS ep s l = (l.map Fin.val).foldl (stepS ep) s := by unfold foldS; rw [List.foldl_map]
  rw [h1, h, show listed 127 = [0, 1, 2, 3, 4, 5, 6] by decide]
  rfl

set_option maxRecDepth 100000 in
set_option maxHeartbeats 2000000 in
theorem count_any (ep : List Blk) (base s0 : Nat) (v : Value) (w : World) (hs : s0 < 128) (hv : OwnBlks w base v ep) (hb : ∀ b ∈ ep, b.1 < 7) (hlen : ep.length ≤ 6) :
    Calls Try.prog 42 #[.int .i64 (s0 : Int), v] w fun e w' => e = .returned (.int .i64 (countS ep s0 : Nat)) ∧ Below w.heap.size w w' := by
  obtain ⟨ao, cap, rfl⟩ := hv.slice
  refine (callsIn_wide (n := 6)).1 ?_
  refine callsIn_of_wp_marks Try.func42 rfl trivial ?_ rfl
  simp only [Try.ntmps42, List.size_toArray, List.length_cons, List.length_nil, Nat.reduceAdd, Nat.reduceSub, Array.replicate_succ, Array.replicate_zero, List.push_toArray, List.append_toArray, List.nil_append, List.cons_append]
  gi_wp2_with (refine ⟨trivial, ?_⟩; gi_at_call 24; refine (callsIn_wide.2 (nodes_any _ _)).mono ?_; rintro e w' ⟨rfl, rfl⟩)
  have b0 := Boxed.new w 66 (.int .i64 (s0 : Int))
  have b1 := Boxed.new (w.alloc (.cells #[.int .i64 (s0 : Int)] 66)) 83 (.slice ao ep.length cap)
  have b2 := Boxed.new ((w.alloc (.cells #[.int .i64 (s0 : Int)] 66)).alloc (.cells #[.slice ao ep.length cap] 83)) 66 (.int .i64 127)
  simp only [World.size_alloc] at b1 b2
  have hB0 : Below w.heap.size w (((w.alloc (.cells #[.int .i64 (s0 : Int)] 66)).alloc (.cells #[.slice ao ep.length cap] 83)).alloc (.cells #[.int .i64 127] 66)) := (((Below.refl _ w).alloc (Nat.le_refl _) _).alloc (by simp) _).alloc (by simp; omega) _
  refine wpIn_rangeFunc_ownG rfl (by omega) (gf := 44) (lb := #[.pointer (some ⟨w.heap.size + 1 + 1, 0, none⟩)]) rfl trivial (enters_of Try.func44 (by kernel_rfl) rfl)
    (nodes_stops 5 (by omega) (w.heap.size + 1 + 1) 127 (by omega) _ b2) keepB_t (keepB_b (by simp)) (Below.refl _ _) (fun _ => rfl)
    (fun pre W => (Boxed W w.heap.size 66 (.int .i64 (foldS ep s0 pre : Nat)) ∧ Boxed W (w.heap.size + 1) 83 (.slice ao ep.length cap) ∧ w.heap.size + 1 + 1 < W.heap.size) ∧ Below w.heap.size w W)
    (fun _ _ _ => False)
    (OwnFrom.and (Own.from (fun s A B row hs hg hr => ⟨boxed_own' _ _ (fun pre : List (Fin 7) => Value.int .i64 (foldS ep s0 pre : Nat)) s A B row hs.1 hg hr, boxed_own' _ _ (fun _ : List (Fin 7) => Value.slice ao ep.length cap) s A B row hs.2.1 hg hr, Nat.lt_of_lt_of_le hs.2.2 hg.size⟩) _) (ownFrom_below (Nat.le_refl _) (by simp; omega)))
    (fun _ _ _ _ _ hs _ _ => hs)
    ⟨⟨(b0.alloc _).alloc _, b1.alloc _, by simp⟩, hB0⟩
    (fun x => { tmps := #[.int .i64 (s0 : Int), .slice ao ep.length cap, .pointer (some ⟨w.heap.size, 0, none⟩), .pointer (some ⟨w.heap.size + 1, 0, none⟩), .int .i64 0, .int .i64 (x.1 : Int), .func (.func 44) #[] #[.pointer (some ⟨w.heap.size + 1 + 1, 0, none⟩)], .int .i64 (x.1 : Int), undef, undef, undef, undef, undef, undef, undef, undef, undef, undef, undef, undef, undef, undef, undef, undef, undef, undef, undef, undef, undef, undef, undef, undef, undef, undef, undef, undef, undef], defers := [] }) ?assign ?body ?done ?stop
  case assign =>
    intro l x W K hK
    gi_wp2
    exact hK
  case body =>
    rintro l pre x W ⟨⟨hb0, hb1, hsz⟩, hB⟩ hlt
    have hown := show OwnBlks W base _ ep from ownsRow_below hv hB
    have hst := foldS_snoc ep s0 pre x
    have hs128 := foldS_lt (ep := ep) hs pre
    obtain ⟨s, hse⟩ : ∃ s, foldS ep s0 pre = s := ⟨_, rfl⟩
    rw [hse] at hb0 hst hs128
    have hx7 := x.2
    have hva := votes_eq ep 43 x.1 hb
    have hva2 := votesS_lt ep 43 x.1 hb
    obtain ⟨va, hvae⟩ : ∃ va, votesS ep 43 x.1 0 = va := ⟨_, rfl⟩
    rw [hvae] at hva hva2
    have hvc := votes_eq ep 45 x.1 hb
    have hvc2 := votesS_lt ep 45 x.1 hb
    obtain ⟨vc, hvce⟩ : ∃ vc, votesS ep 45 x.1 0 = vc := ⟨_, rfl⟩
    rw [hvce] at hvc hvc2
    obtain ⟨a, hae⟩ : ∃ a, votes ep 43 x.1 = a := ⟨_, rfl⟩
    obtain ⟨c, hce⟩ : ∃ c, votes ep 45 x.1 = c := ⟨_, rfl⟩
    obtain ⟨z, hze⟩ : ∃ z, sizeS s = z := ⟨_, rfl⟩
    rw [hae] at hva
    rw [hce] at hvc
    have hst2 : foldS ep s0 (pre ++ [x]) = if 2 ≤ a then withS s x.1 else if 2 ≤ c ∧ s.testBit x.1 = true ∧ 4 < z then withoutS s x.1 else s := by
      rw [hst, stepS, hae, hce, hze]
    have hhas : hasS s (x.1 : Int) = s.testBit x.1 := by
      have h7 : ((x.1 : Int) < 7) := by omega
      simp [hasS, h7]
    obtain ⟨b, hbe⟩ : ∃ b, s.testBit x.1 = b := ⟨_, rfl⟩
    rw [hbe] at hst2 hhas
    have HVA := hide hva
    have HVC := hide hvc
    have HVAE := hide hvae
    have HVCE := hide hvce
    have HZE := hide hze
    have HHAS := hide hhas
    have HBL := hide hb
    obtain ⟨xv, hxv⟩ : ∃ xv, x.1 = xv := ⟨_, rfl⟩
    rw [hxv] at hx7 hst2 HVAE HVCE HHAS ⊢
    clear hst hva hvc hvae hvce hae hce hze hhas hbe hse hxv hb
    have hc0 := hb0.cell
    have hc1 := hb1.cell
    by_cases h1 : 2 ≤ a
    · rw [if_pos h1] at hst2
      have HST := hide hst2
      clear hst2
      gi_wp2_with fail
      refine ⟨trivial, ?_⟩
      refine (CallsIn.inRound l (callsIn_wide.2 (voters_is 43 va ep base _ 43 xv _ rfl hown HBL.out hlen (by omega) hx7 HVAE.out))).mono ?_
      rintro e W1 ⟨rfl, hbel⟩
      have hb01 := boxed_below hb0 hbel
      have hc01 := hb01.cell
      have hf01 := hb01.frozen
      have hb11 := boxed_below hb1 hbel
      have hsz1 := hbel.size
      gi_wp2_with (first
        | (refine ⟨trivial, ?_⟩; gi_at_call 23; refine (CallsIn.inRound l (callsIn_wide.2 (size_is a va hva2 _ HVA.out))).mono ?_; rintro e w' ⟨rfl, rfl⟩)
        | (refine ⟨trivial, ?_⟩; gi_at_call 57; refine (CallsIn.inRound l (callsIn_wide.2 (with_any s xv hs128 hx7 _))).mono ?_; rintro e w' ⟨rfl, rfl⟩))
      exact ⟨((keepsOthers_of_below hbel).trans (KeepsOthers.setCell _ _ _)).from _, keepB_t (keepB_below (by omega) hbel) (keepB_set (by omega) _), ⟨by rw [HST.out]; exact hb01.set _, boxed_keep_set hb11 (by omega) _, Nat.lt_of_lt_of_le (by omega) (KeepsWalks.setCell _ _ _).size⟩, (hB.trans (hbel.mono hB.size)).setCell (p := ⟨w.heap.size, 0, none⟩) (Nat.le_refl _) _⟩
    · rw [if_neg h1] at hst2
      by_cases h2 : 2 ≤ c
      · cases b with
        | true =>
          by_cases h3 : 4 < z
          · rw [if_pos ⟨h2, rfl, h3⟩] at hst2
            have HST := hide hst2
            clear hst2
            gi_wp2_with fail
            refine ⟨trivial, ?_⟩
            refine (CallsIn.inRound l (callsIn_wide.2 (voters_is 43 va ep base _ 43 xv _ rfl hown HBL.out hlen (by omega) hx7 HVAE.out))).mono ?_
            rintro e W1 ⟨rfl, hbel⟩
            have hb01 := boxed_below hb0 hbel
            have hb11 := boxed_below hb1 hbel
            have hc11 := hb11.cell
            have hown1 := show OwnBlks W1 base _ ep from ownsRow_below hown hbel
            have hsz1 := hbel.size
            gi_wp2_with (refine ⟨trivial, ?_⟩; gi_at_call 23; refine (CallsIn.inRound l (callsIn_wide.2 (size_is a va hva2 _ HVA.out))).mono ?_; rintro e w' ⟨rfl, rfl⟩)
            refine ⟨trivial, ?_⟩
            refine (CallsIn.inRound l (callsIn_wide.2 (voters_is 45 vc ep base _ 45 xv _ rfl hown1 HBL.out hlen (by omega) hx7 HVCE.out))).mono ?_
            rintro e W2 ⟨rfl, hbel2⟩
            have hb02 := boxed_below hb01 hbel2
            have hb12 := boxed_below hb11 hbel2
            have hc02 := hb02.cell
            have hf02 := hb02.frozen
            have hsz2 := hbel2.size
            have hbe3 := hbel.trans (hbel2.mono hsz1)
            clear hbel hbel2 hb01 hb11 hc11 hown1 hown hc0 hc1
            gi_wp2_with (refine ⟨trivial, ?_⟩; gi_at_call 23; refine (CallsIn.inRound l (callsIn_wide.2 (size_is c vc hvc2 _ HVC.out))).mono ?_; rintro e w' ⟨rfl, rfl⟩)
            gi_wp2_with (refine ⟨trivial, ?_⟩; gi_at_call 41; refine (CallsIn.inRound l (callsIn_wide.2 (has_is true s hs128 xv _ HHAS.out))).mono ?_; rintro e w' ⟨rfl, rfl⟩)
            gi_wp2_with (first | (refine ⟨trivial, ?_⟩; gi_at_call 23; refine (CallsIn.inRound l (callsIn_wide.2 (size_is z s hs128 _ HZE.out))).mono ?_; rintro e w' ⟨rfl, rfl⟩) | (refine ⟨trivial, ?_⟩; gi_at_call 58; refine (CallsIn.inRound l (callsIn_wide.2 (without_any s xv hs128 hx7 _))).mono ?_; rintro e w' ⟨rfl, rfl⟩))
            exact ⟨((keepsOthers_of_below hbe3).trans (KeepsOthers.setCell _ _ _)).from _, keepB_t (keepB_below (by omega) hbe3) (keepB_set (by omega) _), ⟨by rw [HST.out]; exact hb02.set _, boxed_keep_set hb12 (by omega) _, Nat.lt_of_lt_of_le (by omega) (KeepsWalks.setCell _ _ _).size⟩, (hB.trans (hbe3.mono hB.size)).setCell (p := ⟨w.heap.size, 0, none⟩) (Nat.le_refl _) _⟩
          · rw [if_neg (by rintro ⟨_, _, h⟩; exact h3 h)] at hst2
            have HST := hide hst2
            clear hst2
            gi_wp2_with fail
            refine ⟨trivial, ?_⟩
            refine (CallsIn.inRound l (callsIn_wide.2 (voters_is 43 va ep base _ 43 xv _ rfl hown HBL.out hlen (by omega) hx7 HVAE.out))).mono ?_
            rintro e W1 ⟨rfl, hbel⟩
            have hb01 := boxed_below hb0 hbel
            have hb11 := boxed_below hb1 hbel
            have hc11 := hb11.cell
            have hown1 := show OwnBlks W1 base _ ep from ownsRow_below hown hbel
            have hsz1 := hbel.size
            gi_wp2_with (refine ⟨trivial, ?_⟩; gi_at_call 23; refine (CallsIn.inRound l (callsIn_wide.2 (size_is a va hva2 _ HVA.out))).mono ?_; rintro e w' ⟨rfl, rfl⟩)
            refine ⟨trivial, ?_⟩
            refine (CallsIn.inRound l (callsIn_wide.2 (voters_is 45 vc ep base _ 45 xv _ rfl hown1 HBL.out hlen (by omega) hx7 HVCE.out))).mono ?_
            rintro e W2 ⟨rfl, hbel2⟩
            have hb02 := boxed_below hb01 hbel2
            have hb12 := boxed_below hb11 hbel2
            have hc02 := hb02.cell
            have hf02 := hb02.frozen
            have hsz2 := hbel2.size
            have hbe3 := hbel.trans (hbel2.mono hsz1)
            clear hbel hbel2 hb01 hb11 hc11 hown1 hown hc0 hc1
            gi_wp2_with (refine ⟨trivial, ?_⟩; gi_at_call 23; refine (CallsIn.inRound l (callsIn_wide.2 (size_is c vc hvc2 _ HVC.out))).mono ?_; rintro e w' ⟨rfl, rfl⟩)
            gi_wp2_with (refine ⟨trivial, ?_⟩; gi_at_call 41; refine (CallsIn.inRound l (callsIn_wide.2 (has_is true s hs128 xv _ HHAS.out))).mono ?_; rintro e w' ⟨rfl, rfl⟩)
            gi_wp2_with (refine ⟨trivial, ?_⟩; gi_at_call 23; refine (CallsIn.inRound l (callsIn_wide.2 (size_is z s hs128 _ HZE.out))).mono ?_; rintro e w' ⟨rfl, rfl⟩)
            exact ⟨(keepsOthers_of_below hbe3).from _, keepB_below (by omega) hbe3, ⟨by rw [HST.out]; exact hb02, hb12, by omega⟩, hB.trans (hbe3.mono hB.size)⟩
        | false =>
          rw [if_neg (by rintro ⟨_, h, _⟩; cases h)] at hst2
          have HST := hide hst2
          clear hst2
          gi_wp2_with fail
          refine ⟨trivial, ?_⟩
          refine (CallsIn.inRound l (callsIn_wide.2 (voters_is 43 va ep base _ 43 xv _ rfl hown HBL.out hlen (by omega) hx7 HVAE.out))).mono ?_
          rintro e W1 ⟨rfl, hbel⟩
          have hb01 := boxed_below hb0 hbel
          have hb11 := boxed_below hb1 hbel
          have hc11 := hb11.cell
          have hown1 := show OwnBlks W1 base _ ep from ownsRow_below hown hbel
          have hsz1 := hbel.size
          gi_wp2_with (refine ⟨trivial, ?_⟩; gi_at_call 23; refine (CallsIn.inRound l (callsIn_wide.2 (size_is a va hva2 _ HVA.out))).mono ?_; rintro e w' ⟨rfl, rfl⟩)
          refine ⟨trivial, ?_⟩
          refine (CallsIn.inRound l (callsIn_wide.2 (voters_is 45 vc ep base _ 45 xv _ rfl hown1 HBL.out hlen (by omega) hx7 HVCE.out))).mono ?_
          rintro e W2 ⟨rfl, hbel2⟩
          have hb02 := boxed_below hb01 hbel2
          have hb12 := boxed_below hb11 hbel2
          have hc02 := hb02.cell
          have hf02 := hb02.frozen
          have hsz2 := hbel2.size
          have hbe3 := hbel.trans (hbel2.mono hsz1)
          clear hbel hbel2 hb01 hb11 hc11 hown1 hown hc0 hc1
          gi_wp2_with (refine ⟨trivial, ?_⟩; gi_at_call 23; refine (CallsIn.inRound l (callsIn_wide.2 (size_is c vc hvc2 _ HVC.out))).mono ?_; rintro e w' ⟨rfl, rfl⟩)
          gi_wp2_with (refine ⟨trivial, ?_⟩; gi_at_call 41; refine (CallsIn.inRound l (callsIn_wide.2 (has_is false s hs128 xv _ HHAS.out))).mono ?_; rintro e w' ⟨rfl, rfl⟩)
          refine ⟨trivial, ?_⟩
          gi_wp2
          exact ⟨(keepsOthers_of_below hbe3).from _, keepB_below (by omega) hbe3, ⟨by rw [HST.out]; exact hb02, hb12, by omega⟩, hB.trans (hbe3.mono hB.size)⟩
      · rw [if_neg (by rintro ⟨h, _⟩; exact h2 h)] at hst2
        have HST := hide hst2
        clear hst2
        gi_wp2_with fail
        refine ⟨trivial, ?_⟩
        refine (CallsIn.inRound l (callsIn_wide.2 (voters_is 43 va ep base _ 43 xv _ rfl hown HBL.out hlen (by omega) hx7 HVAE.out))).mono ?_
        rintro e W1 ⟨rfl, hbel⟩
        have hb01 := boxed_below hb0 hbel
        have hb11 := boxed_below hb1 hbel
        have hc11 := hb11.cell
        have hown1 := show OwnBlks W1 base _ ep from ownsRow_below hown hbel
        have hsz1 := hbel.size
        gi_wp2_with (refine ⟨trivial, ?_⟩; gi_at_call 23; refine (CallsIn.inRound l (callsIn_wide.2 (size_is a va hva2 _ HVA.out))).mono ?_; rintro e w' ⟨rfl, rfl⟩)
        refine ⟨trivial, ?_⟩
        refine (CallsIn.inRound l (callsIn_wide.2 (voters_is 45 vc ep base _ 45 xv _ rfl hown1 HBL.out hlen (by omega) hx7 HVCE.out))).mono ?_
        rintro e W2 ⟨rfl, hbel2⟩
        have hb02 := boxed_below hb01 hbel2
        have hb12 := boxed_below hb11 hbel2
        have hc02 := hb02.cell
        have hf02 := hb02.frozen
        have hsz2 := hbel2.size
        have hbe3 := hbel.trans (hbel2.mono hsz1)
        clear hbel hbel2 hb01 hb11 hc11 hown1 hown hc0 hc1
        gi_wp2_with (refine ⟨trivial, ?_⟩; gi_at_call 23; refine (CallsIn.inRound l (callsIn_wide.2 (size_is c vc hvc2 _ HVC.out))).mono ?_; rintro e w' ⟨rfl, rfl⟩)
        refine ⟨trivial, ?_⟩
        gi_wp2
        refine ⟨trivial, ?_⟩
        gi_wp2
        exact ⟨(keepsOthers_of_below hbe3).from _, keepB_below (by omega) hbe3, ⟨by rw [HST.out]; exact hb02, hb12, by omega⟩, hB.trans (hbe3.mono hB.size)⟩
  case done =>
    rintro D ys W hD hys ⟨⟨hb0, hb1, hsz⟩, hB⟩ hK
    rw [foldS_all hys] at hb0
    have hc := hb0.cell
    gi_wp2
    refine ⟨by simp, .inl ⟨_, _, rfl, run_takeDeferred hK, ?_⟩⟩
    exact ⟨_, results_tmp rfl _ _ _, rfl, hB.trans (belowK_b (w := w) (Nat.le_refl _) W D _ _ (by simp at hD; omega) hK rfl rfl)⟩
  case stop =>
    rintro D c pre W _ _ h _
    exact h.elim
end Go.Proofs.Ytlkhmldceekdaaa
