import Derived.Test.YtpecfjejfkcolaaPart7
/- The document's turned, walked. -/
namespace Go.Proofs.Ytpecfjejfkcolaa
open Go.RowKit
set_option linter.unusedVariables false

theorem ownsRow_below {w w' : World} {base : Nat} {e : TypeId} {size : Nat} {v : Value} {n : Nat} {xs : List Value} (h : w.ownsRow base e size v n xs) (hb : Below w.heap.size w w') : w'.ownsRow base e size v n xs := by
  obtain ⟨hl, h⟩ := h
  refine ⟨hl, ?_⟩
  rcases h with ⟨rfl, h0⟩ | ⟨g, cap, cur, rfl, hg, hh, hr⟩
  · exact .inl ⟨rfl, h0⟩
  · exact .inr ⟨g, cap, cur, rfl, hg, (hb.block g (lt_of_block hh)).trans hh, hr⟩
theorem ownsRow_mono {w : World} {base base' : Nat} {e : TypeId} {size : Nat} {v : Value} {n : Nat} {xs : List Value} (h : w.ownsRow base e size v n xs) (hb : base' ≤ base) : w.ownsRow base' e size v n xs := by
  obtain ⟨hl, h⟩ := h
  refine ⟨hl, ?_⟩
  rcases h with ⟨rfl, h0⟩ | ⟨g, cap, cur, rfl, hg, hh, hr⟩
  · exact .inl ⟨rfl, h0⟩
  · exact .inr ⟨g, cap, cur, rfl, Nat.le_trans hb hg, hh, hr⟩
/-- a slice of numbers that lies in memory from block 'base' on -/
def OwnInts (w : World) (base : Nat) (v : Value) (l : List Nat) : Prop := w.ownsRow base 3 1 v (castL l).length ((castL l).map (Value.int .i64))
theorem OwnInts.ints {w : World} {base : Nat} {v : Value} {l : List Nat} (h : OwnInts w base v l) : Ints w v (castL l) := ints_of_owns h
theorem castL_len (l : List Nat) : (castL l).length = l.length := by simp [castL]
theorem OwnInts.slice {w : World} {base : Nat} {v : Value} {l : List Nat} (h : OwnInts w base v l) : ∃ ao cap, v = .slice ao l.length cap := by
  rcases h.2 with ⟨rfl, h0⟩ | ⟨g, cap, cur, rfl, _⟩
  · rw [castL_len] at h0; exact ⟨none, 0, by rw [h0]⟩
  · rw [castL_len]; exact ⟨_, _, rfl⟩

theorem OwnInts.at {w : World} {base n cap : Nat} {ao : Option Addr} {l : List Nat} (h : OwnInts w base (.slice ao n cap) l) (hl : 0 < l.length) :
    ∃ g, ao = some ⟨g, 0, none⟩ ∧ g < w.heap.size ∧ ∀ j, j < l.length → w.cell? ⟨g, j, none⟩ = some (.int .i64 ((l.getD j 0 : Nat) : Int)) := by
  have h' : w.ownsRow base 3 1 (.slice ao n cap) (castL l).length ((castL l).map (Value.int .i64)) := h
  rcases h.2 with ⟨_, h0⟩ | ⟨g, cap', cur, e, hg, hh, _⟩
  · rw [castL_len] at h0; omega
  · injection e with e1 e2 e3
    subst e1 e2
    refine ⟨g, rfl, lt_of_block hh, fun j hj => ?_⟩
    rw [h'.cellAt j (by rw [castL_len]; omega)]
    simp [castL, List.getElem?_map, List.getElem?_eq_getElem hj, List.getD_eq_getElem?_getD]

theorem votes_plus (s : ByteArray) (node a : Nat) (w : World) (hs : s.size = 9) (hn : node < 7) (hok : ∀ k, k < 3 → okAt s k = true) (h : votes (blksTo s 3) 43 node = a) :
    Calls Try.prog 46 #[.string s, .int .u8 43, .int .i64 node] w fun e w' => e = .returned (.int .i64 a) ∧ Below w.heap.size w w' := by
  rw [← h]; exact votes_any s 43 node w hs (by omega) hn hok
theorem votes_minus (s : ByteArray) (node a : Nat) (w : World) (hs : s.size = 9) (hn : node < 7) (hok : ∀ k, k < 3 → okAt s k = true) (h : votes (blksTo s 3) 45 node = a) :
    Calls Try.prog 46 #[.string s, .int .u8 45, .int .i64 node] w fun e w' => e = .returned (.int .i64 a) ∧ Below w.heap.size w w' := by
  rw [← h]; exact votes_any s 45 node w hs (by omega) hn hok

set_option maxRecDepth 100000 in
set_option maxHeartbeats 2000000 in
theorem turned_any (s : ByteArray) (l : List Nat) (s0 base : Nat) (v : Value) (w : World) (hs : s.size = 9) (hok : ∀ k, k < 3 → okAt s k = true) (h0 : s0 < 128) (hl : l = listed s0)
    (hbase : base ≤ w.heap.size) (hv : OwnInts w base v l) :
    Calls Try.prog 28 #[v, .string s] w fun e w' => ∃ v', e = .returned v' ∧ OwnInts w' base v' (listed (countS (blksTo s 3) s0)) ∧ Below base w w' := by
  obtain ⟨i0, hi, hz0, hz1, hz2⟩ := info_parts Try.info3
  have HOK : Hid (∀ k, k < 3 → okAt s k = true) := hok
  clear hok
  go_enter Try.func28, Try.ntmps28
  go_wp2
  go_loopw [0, 5] (fun x i wr => ∃ (k : Nat) (L : List Nat), k ≤ 7 ∧ i = .int .i64 (k : Int) ∧ Walks7 L (countTo (blksTo s 3) s0 k) ∧ OwnInts wr base x L ∧ Below base w wr) (fun _ i _ => 7 - (intOf i).toNat)
  case atStart => exact ⟨0, l, Nat.zero_le _, rfl, by subst hl; exact Walks7.listed, hv, Below.refl _ _⟩
  case round =>
    obtain ⟨k, L, hk, rfl, hW, hown, hB⟩ := hrel
    have hlt0 := countTo_lt (bl := blksTo s 3) h0 k hk
    have hLl := hW.len
    by_cases hlt : k < 7
    · obtain ⟨sk, hsk⟩ : ∃ sk, countTo (blksTo s 3) s0 k = sk := ⟨_, rfl⟩
      obtain ⟨a, ha⟩ : ∃ a, votes (blksTo s 3) 43 k = a := ⟨_, rfl⟩
      obtain ⟨c, hc⟩ : ∃ c, votes (blksTo s 3) 45 k = c := ⟨_, rfl⟩
      have hstep : countTo (blksTo s 3) s0 (k + 1) = if 2 ≤ a then withS sk k else if 2 ≤ c ∧ sk.testBit k = true ∧ 4 < sizeS sk then withoutS sk k else sk := by
        rw [countTo, stepS, hsk, ha, hc]
      rw [hsk] at hW hlt0
      have hm := hW.mem hlt
      obtain ⟨b, hb⟩ : ∃ b, sk.testBit k = b := ⟨_, rfl⟩
      rw [hb] at hm
      have hm' : decide ((k : Int) ∈ castL L) = b := by rw [← hm]; simp only [mem_castL]
      have hmem : b = true ↔ k ∈ L := by rw [← hm]; simp
      have hsL := hW.2.2.2
      have HSK := hide hsk
      have HA := hide ha
      have HC := hide hc
      have HB := hide hb
      have HI := hown.ints
      have hl5 : (castL L).length ≤ 7 := by rw [castL_len]; exact hLl
      have hsz := hB.size
      obtain ⟨ao, cap, rfl⟩ := hown.slice
      rw [hb, ← hsL] at hstep
      clear hsk ha hc hb hm hsL
      by_cases h1 : 2 ≤ a
      · rw [if_pos h1] at hstep
        have HS := hide hstep
        clear hstep
        cases b with
        | false =>
          have hW' := hW.push hlt0 hlt (by rw [← hmem]; simp)
          rw [← HS.out] at hW'
          clear hmem
          have HW := hide hW'
          clear hW'
          go_wp2_with (go_at_call 27; refine (in_is false _ _ _ _ HI (by omega) hm').mono ?_; rintro e w' ⟨rfl, rfl⟩)
          refine (votes_plus s k a _ hs hlt HOK.out HA.out).mono ?_
          rintro e w1 ⟨rfl, hb1⟩
          go_wp2_with fail
          refine (votes_minus s k c _ hs hlt HOK.out HC.out).mono ?_
          rintro e w2 ⟨rfl, hb2⟩
          have hb3 : Below w'.heap.size w' w2 := hb1.trans (hb2.mono hb1.size)
          have hown2 : OwnInts w2 base (.slice ao L.length cap) L := ownsRow_below hown hb3
          have hsz3 := hb3.size
          clear hb1 hb2
          go_wp2_with (at_builtin; refine wpList_append_own _ rfl _ _ 45 rfl base 3 i0 (.int .i64 0) 1 8 Try.underlying45 hi hz0 hz1 hz2 rfl (by decide) _ _ _ rfl (World.ownsRow.alloc hown2 _) ⟨_, 0, none⟩ 1 1 [.int .i64 (k : Int)] rfl rfl (cell_one_new _ _ _) (by simp [Value.oneCell']) (by unfold maxLen; omega) (by omega) (by simp; omega) ?_; intro v' w1 hown' hgrow _)
          have R := push_ints (hB.trans (hb3.mono (by omega))) (by omega) hown2 hown' hgrow
          rw [← castL_snoc] at R
          clear hown' hgrow
          go_wp2
          go_roundw
          case rel => exact ⟨k + 1, L ++ [k], by omega, by go_num, HW.out, R.1, R.2⟩
          case measure => simp [intOf]; omega
        | true =>
          have hW' := hW.same hlt0 hlt (hmem.1 rfl)
          rw [← HS.out] at hW'
          clear hmem
          have HW := hide hW'
          clear hW'
          go_wp2_with (go_at_call 27; refine (in_is true _ _ _ _ HI (by omega) hm').mono ?_; rintro e w' ⟨rfl, rfl⟩)
          refine (votes_plus s k a _ hs hlt HOK.out HA.out).mono ?_
          rintro e w1 ⟨rfl, hb1⟩
          go_wp2_with fail
          refine (votes_minus s k c _ hs hlt HOK.out HC.out).mono ?_
          rintro e w2 ⟨rfl, hb2⟩
          have hb3 : Below w'.heap.size w' w2 := hb1.trans (hb2.mono hb1.size)
          have hown2 : OwnInts w2 base (.slice ao L.length cap) L := ownsRow_below hown hb3
          clear hb1 hb2
          go_wp2
          go_roundw
          case rel => exact ⟨k + 1, L, by omega, by go_num, HW.out, hown2, hB.trans (hb3.mono (by omega))⟩
          case measure => simp [intOf]; omega
      · rw [if_neg h1] at hstep
        by_cases h2 : 2 ≤ c ∧ b = true ∧ 4 < L.length
        · rw [if_pos h2] at hstep
          obtain ⟨h3, rfl, h4⟩ := h2
          have hW' := hW.drop hlt0 hlt (hmem.1 rfl)
          rw [← hstep] at hW'
          have HW := hide hW'
          clear hW hW' hstep hmem
          have h1B : decide (2 ≤ (a : Int)) = false := by simp; omega
          have h3B : decide (2 ≤ (c : Int)) = true := by simp; omega
          have h4B : decide (4 < (L.length : Int)) = true := by simp; omega
          obtain ⟨g, rfl, hg, hcell⟩ := hown.at (by omega)
          go_wp2_with (go_at_call 27; refine (in_is true _ _ _ _ HI (by omega) hm').mono ?_; rintro e w' ⟨rfl, rfl⟩)
          refine (votes_plus s k a _ hs hlt HOK.out HA.out).mono ?_
          rintro e w1 ⟨rfl, hb1⟩
          go_wp2_with fail
          refine (votes_minus s k c _ hs hlt HOK.out HC.out).mono ?_
          rintro e w2 ⟨rfl, hb2⟩
          have hb3 : Below w'.heap.size w' w2 := hb1.trans (hb2.mono hb1.size)
          have hsz3 := hb3.size
          have HCELL := hide hcell
          clear hb1 hb2 hcell HI hown
          go_wp2
          go_loopw [9, 10] (fun x i wr' => ∃ (j : Nat), j ≤ L.length ∧ i = .int .i64 (j : Int) ∧ OwnInts wr' w2.heap.size x (without (L.take j) k) ∧ Below w2.heap.size w2 wr') (fun _ i _ => L.length - (intOf i).toNat)
          case atStart => exact ⟨0, Nat.zero_le _, rfl, World.ownsRow_nil _ _ _ _, Below.refl _ _⟩
          case round =>
            obtain ⟨j, hj, rfl, hown4, hB4⟩ := hrel
            have hsz4 := hB4.size
            have hlw : (castL (without (L.take j) k)).length ≤ 7 := by
              rw [castL_len]
              refine Nat.le_trans (List.length_filter_le _ _) ?_
              rw [List.length_take]; omega
            by_cases hjl : j < L.length
            · have hcj := HCELL.out j hjl
              rw [← hb3.cell (p := ⟨g, j, none⟩) hg, ← hB4.cell (p := ⟨g, j, none⟩) (show g < w2.heap.size by omega)] at hcj
              have hsn := without_snoc L j k hjl
              have hgd : L.getD j 0 = L[j] := by simp [List.getD_eq_getElem?_getD, hjl]
              rw [hgd] at hcj
              obtain ⟨x, hx⟩ : ∃ x, L[j] = x := ⟨_, rfl⟩
              rw [hx] at hcj hsn
              clear hx hgd
              by_cases e : x = k
              · rw [if_pos e] at hsn
                have HSN := hide hsn
                have hxB : ((x : Int) != (k : Int)) = false := by simp [e]
                clear hsn e
                go_wp2
                go_roundw
                case rel => exact ⟨j + 1, by omega, by go_num, by rw [HSN.out]; exact hown4, hB4⟩
                case measure => simp [intOf]; omega
              · rw [if_neg e] at hsn
                have HSN := hide hsn
                have hxB : ((x : Int) != (k : Int)) = true := by simp; omega
                clear hsn e
                go_wp2_with (at_builtin; refine wpList_append_own _ rfl _ _ 45 rfl w2.heap.size 3 i0 (.int .i64 0) 1 8 Try.underlying45 hi hz0 hz1 hz2 rfl (by decide) _ _ _ rfl (World.ownsRow.alloc hown4 _) ⟨_, 0, none⟩ 1 1 [.int .i64 (x : Int)] rfl rfl (cell_one_new _ _ _) (by simp [Value.oneCell']) (by unfold maxLen; omega) (by omega) (by simp; omega) ?_; intro v' w1 hown' hgrow _)
                have R := push_ints hB4 hsz4 hown4 hown' hgrow
                rw [← castL_snoc, ← HSN.out] at R
                clear hown' hgrow
                go_wp2
                go_roundw
                case rel => exact ⟨j + 1, by omega, by go_num, R.1, R.2⟩
                case measure => simp [intOf]; omega
            · have HT : Hid (L.take j = L) := List.take_of_length_le (by omega)
              go_wp2
              go_roundw
              case rel => exact ⟨k + 1, without L k, by omega, by go_num, HW.out, by rw [HT.out] at hown4; exact ownsRow_mono hown4 (by omega), (hB.trans (hb3.mono (by omega))).trans (hB4.mono (by omega))⟩
              case measure => simp [intOf]; omega
        · rw [if_neg h2] at hstep
          rw [← hstep] at hW
          have HW := hide hW
          clear hW hstep hmem
          by_cases h3 : 2 ≤ c
          · cases b with
            | false =>
              clear h2
              go_wp2_with (go_at_call 27; refine (in_is false _ _ _ _ HI (by omega) hm').mono ?_; rintro e w' ⟨rfl, rfl⟩)
              refine (votes_plus s k a _ hs hlt HOK.out HA.out).mono ?_
              rintro e w1 ⟨rfl, hb1⟩
              go_wp2_with fail
              refine (votes_minus s k c _ hs hlt HOK.out HC.out).mono ?_
              rintro e w2 ⟨rfl, hb2⟩
              have hb3 : Below w'.heap.size w' w2 := hb1.trans (hb2.mono hb1.size)
              have hown2 : OwnInts w2 base (.slice ao L.length cap) L := ownsRow_below hown hb3
              clear hb1 hb2
              go_wp2
              go_roundw
              case rel => exact ⟨k + 1, L, by omega, by go_num, HW.out, hown2, hB.trans (hb3.mono (by omega))⟩
              case measure => simp [intOf]; omega
            | true =>
              have h4 : L.length ≤ 4 := by
                apply Nat.le_of_not_lt
                intro h
                exact h2 ⟨h3, rfl, h⟩
              clear h2
              go_wp2_with (go_at_call 27; refine (in_is true _ _ _ _ HI (by omega) hm').mono ?_; rintro e w' ⟨rfl, rfl⟩)
              refine (votes_plus s k a _ hs hlt HOK.out HA.out).mono ?_
              rintro e w1 ⟨rfl, hb1⟩
              go_wp2_with fail
              refine (votes_minus s k c _ hs hlt HOK.out HC.out).mono ?_
              rintro e w2 ⟨rfl, hb2⟩
              have hb3 : Below w'.heap.size w' w2 := hb1.trans (hb2.mono hb1.size)
              have hown2 : OwnInts w2 base (.slice ao L.length cap) L := ownsRow_below hown hb3
              clear hb1 hb2
              go_wp2
              go_roundw
              case rel => exact ⟨k + 1, L, by omega, by go_num, HW.out, hown2, hB.trans (hb3.mono (by omega))⟩
              case measure => simp [intOf]; omega
          · clear h2
            go_wp2_with (go_at_call 27; refine (in_is b _ _ _ _ HI (by omega) hm').mono ?_; rintro e w' ⟨rfl, rfl⟩)
            refine (votes_plus s k a _ hs hlt HOK.out HA.out).mono ?_
            rintro e w1 ⟨rfl, hb1⟩
            go_wp2_with fail
            refine (votes_minus s k c _ hs hlt HOK.out HC.out).mono ?_
            rintro e w2 ⟨rfl, hb2⟩
            have hb3 : Below w'.heap.size w' w2 := hb1.trans (hb2.mono hb1.size)
            have hown2 : OwnInts w2 base (.slice ao L.length cap) L := ownsRow_below hown hb3
            clear hb1 hb2
            go_wp2
            go_roundw
            case rel => exact ⟨k + 1, L, by omega, by go_num, HW.out, hown2, hB.trans (hb3.mono (by omega))⟩
            case measure => simp [intOf]; omega
    · obtain ⟨sf, hsf⟩ : ∃ sf, countTo (blksTo s 3) s0 k = sf := ⟨_, rfl⟩
      have HSF : Hid (countS (blksTo s 3) s0 = sf) := by
        have hk7 : k = 7 := by omega
        rw [hk7] at hsf
        exact hsf
      rw [hsf] at hW hlt0
      clear hsf
      have hsz := hB.size
      go_wp2
      go_loopw [11, 12] (fun x i wr' => ∃ (j : Nat), j ≤ 7 ∧ i = .int .i64 (j : Int) ∧ OwnInts wr' wr.heap.size x (listedTo sf j) ∧ Below wr.heap.size wr wr') (fun _ i _ => 7 - (intOf i).toNat)
      case atStart => exact ⟨0, Nat.zero_le _, rfl, World.ownsRow_nil _ _ _ _, Below.refl _ _⟩
      case round =>
        obtain ⟨j, hj, rfl, hown3, hB3⟩ := hrel
        have hi3 := (show OwnInts _ base _ L from ownsRow_below hown hB3).ints
        have hsz3 := hB3.size
        have hl3 := listedTo_len sf j
        have hl4 : (castL (listedTo sf j)).length ≤ j := by rw [castL_len]; exact hl3
        have hl5 : (castL L).length ≤ 7 := by rw [castL_len]; exact hLl
        by_cases hlt : j < 7
        · have hm := hW.mem hlt
          have hm' : decide ((j : Int) ∈ castL L) = sf.testBit j := by rw [← hm]; simp only [mem_castL]
          cases hb : sf.testBit j with
          | true =>
            rw [hb] at hm'
            have HT : Hid (listedTo sf (j + 1) = listedTo sf j ++ [j]) := by rw [listedTo_succ, if_pos hb]; rfl
            clear hm hb
            go_wp2_with (first
              | (go_at_call 27; refine (in_is true _ _ _ _ hi3 (by omega) hm').mono ?_; rintro e w' ⟨rfl, rfl⟩)
              | (at_builtin; refine wpList_append_own _ rfl _ _ 45 rfl wr.heap.size 3 i0 (.int .i64 0) 1 8 Try.underlying45 hi hz0 hz1 hz2 rfl (by decide) _ _ _ rfl (World.ownsRow.alloc hown3 _) ⟨_, 0, none⟩ 1 1 [.int .i64 (j : Int)] rfl rfl (cell_one_new _ _ _) (by simp [Value.oneCell']) (by unfold maxLen; omega) (by omega) (by simp; omega) ?_; intro v' w1 hown' hgrow _))
            have R := push_ints hB3 hsz3 hown3 hown' hgrow
            rw [← castL_snoc, ← HT.out] at R
            clear hown' hgrow
            go_wp2
            go_roundw
            case rel => exact ⟨j + 1, by omega, by go_num, R.1, R.2⟩
            case measure => simp [intOf]; omega
          | false =>
            rw [hb] at hm'
            have HT : Hid (listedTo sf (j + 1) = listedTo sf j) := by rw [listedTo_succ, if_neg (by simp [hb])]; rfl
            clear hm hb
            go_wp2_with (go_at_call 27; refine (in_is false _ _ _ _ hi3 (by omega) hm').mono ?_; rintro e w' ⟨rfl, rfl⟩)
            go_roundw
            case rel => exact ⟨j + 1, by omega, by go_num, by rw [HT.out]; exact hown3, hB3⟩
            case measure => simp [intOf]; omega
        · obtain rfl : j = 7 := by omega
          go_wp2
          go_ret
          refine ⟨_, rfl, ?_, hB.trans (hB3.mono (by omega))⟩
          rw [HSF.out]
          exact ownsRow_mono hown3 (by omega)
end Go.Proofs.Ytpecfjejfkcolaa
