import Derived.Test.YtpecfjejfkcolaaPart23
/- The document's reading by places: at, cut, moveAt. -/
namespace Go.Proofs.Ytpecfjejfkcolaa
open Go.RowKit Go.Shelf
set_option linter.unusedVariables false

def atB (s : ByteArray) (i : Nat) : Int := if h : i < s.size then (s[i].toNat : Int) else 0
theorem atB_bound (s : ByteArray) (i : Nat) : 0 ≤ atB s i ∧ atB s i ≤ 255 := by
  unfold atB
  split
  · rename_i h
    have := s[i].toNat_lt
    omega
  · omega
set_option maxRecDepth 100000 in
set_option maxHeartbeats 1000000 in
theorem at_nat (s : ByteArray) (i : Nat) (w : World) (hs : s.size ≤ maxLen) (hi : i ≤ 100000000) :
    Calls Try.prog 34 #[.string s, .int .i64 (i : Int)] w fun e w' => e = .returned (.int .i64 (atB s i)) ∧ w' = w := by
  unfold maxLen at hs
  by_cases h : i < s.size
  · have HA : Hid (atB s i = (s[i].toNat : Int)) := dif_pos h
    have hb := s[i].toNat_lt
    have i0 : (0 : Int) ≤ (i : Int) := by omega
    have i1 : (i : Int) < (s.size : Int) := by omega
    go_enter Try.func34, Try.ntmps34
    go_wp2
    go_ret
    refine ⟨ret_int ?_, rfl⟩
    rw [HA.out]
  · have HA : Hid (atB s i = 0) := dif_neg h
    go_enter Try.func34, Try.ntmps34
    go_wp2
    go_ret
    exact ⟨ret_int HA.out.symm, rfl⟩
theorem at_is (s : ByteArray) (z : Int) (w : World) (hs : s.size ≤ maxLen) (h0 : 0 ≤ z) (h1 : z ≤ 100000000) :
    Calls Try.prog 34 #[.string s, .int .i64 z] w fun e w' => e = .returned (.int .i64 (atB s z.toNat)) ∧ w' = w := by
  obtain ⟨i, rfl⟩ := Int.eq_ofNat_of_zero_le h0
  exact at_nat s i w hs (by omega)

theorem extract_past {s : ByteArray} {i n : Nat} (h : s.size < i) : s.extract i (i + n) = ⟨#[]⟩ := by
  apply ByteArray.ext
  rw [ByteArray.data_extract]
  apply Array.eq_empty_of_size_eq_zero
  rw [Array.size_extract]
  have : s.data.size = s.size := rfl
  omega
theorem extract_end {s : ByteArray} {i n : Nat} (h : s.size < i + n) : s.extract i (i + n) = s.extract i s.size := by
  apply ByteArray.ext
  rw [ByteArray.data_extract, ByteArray.data_extract]
  have e : s.data.size = s.size := rfl
  apply Array.ext
  · rw [Array.size_extract, Array.size_extract]; omega
  · intro j h1 h2
    rw [Array.getElem_extract, Array.getElem_extract]
theorem extract_nil {s : ByteArray} {i j : Nat} (h : min j s.size ≤ i) : s.extract i j = ⟨#[]⟩ := by
  apply ByteArray.ext
  rw [ByteArray.data_extract]
  apply Array.eq_empty_of_size_eq_zero
  rw [Array.size_extract]
  have : s.data.size = s.size := rfl
  omega
theorem ret_str {a b : ByteArray} (h : a = b) : Ending.returned (.string a) = .returned (.string b) := by rw [h]
set_option maxRecDepth 100000 in
set_option maxHeartbeats 1000000 in
theorem cut_nat (s : ByteArray) (i n : Nat) (w : World) (hs : s.size ≤ maxLen) (hi : i ≤ 100000000) (hn : n ≤ 1000) :
    Calls Try.prog 35 #[.string s, .int .i64 (i : Int), .int .i64 (n : Int)] w fun e w' => e = .returned (.string (s.extract i (i + n))) ∧ w' = w := by
  unfold maxLen at hs
  by_cases h : s.size < i
  · have HA := hide (extract_past (n := n) h)
    have i1 : (s.size : Int) < (i : Int) := by omega
    have hsum : IntKind.i64.wrap ((s.size : Int) + (n : Int)) = (s.size : Int) + (n : Int) := by rw [IntKind.wrap_i64]; omega
    go_enter Try.func35, Try.ntmps35
    go_wp2
    · go_ret
      exact ⟨ret_str HA.out.symm, rfl⟩
    · go_ret
      refine ⟨ret_str ?_, rfl⟩
      rw [HA.out]
      exact extract_nil (by omega)
  · by_cases h2 : s.size < i + n
    · have HA := hide (extract_end h2)
      have i0 : (0 : Int) ≤ (i : Int) := by omega
      have i1 : (i : Int) ≤ (s.size : Int) := by omega
      go_enter Try.func35, Try.ntmps35
      go_wp2
      go_ret
      refine ⟨ret_str ?_, rfl⟩
      rw [HA.out]
      exact congrArg (s.extract i) (by omega)
    · have i0 : (0 : Int) ≤ (i : Int) := by omega
      have i1 : (i : Int) ≤ (i : Int) + (n : Int) := by omega
      have i2 : (i : Int) + (n : Int) ≤ (s.size : Int) := by omega
      go_enter Try.func35, Try.ntmps35
      go_wp2
      go_ret
      exact ⟨rfl, rfl⟩
theorem cut_is (s : ByteArray) (z y : Int) (w : World) (hs : s.size ≤ maxLen) (h0 : 0 ≤ z) (h1 : z ≤ 100000000) (h2 : 0 ≤ y) (h3 : y ≤ 1000) :
    Calls Try.prog 35 #[.string s, .int .i64 z, .int .i64 y] w fun e w' => e = .returned (.string (s.extract z.toNat (z.toNat + y.toNat))) ∧ w' = w := by
  obtain ⟨i, rfl⟩ := Int.eq_ofNat_of_zero_le h0
  obtain ⟨n, rfl⟩ := Int.eq_ofNat_of_zero_le h2
  exact cut_nat s i n w hs (by omega) (by omega)

/-- a Move at a place: round, chain, set, and how many bytes -/
def moveAtB (s : ByteArray) (i : Nat) (n : Nat) : Int × ByteArray × Int × Int :=
  if atB s i = 0 then (-1, ⟨#[]⟩, 0, 1) else (atB s i - 1, s.extract (i + 1) (i + 1 + n), atB s (i + 1 + n), 2 + (n : Int))
set_option maxRecDepth 100000 in
set_option maxHeartbeats 1000000 in
theorem moveAt_nat (s : ByteArray) (i : Nat) (h : Int) (w : World) (hs : s.size ≤ maxLen) (hi : i ≤ 10000000) (hh : 0 ≤ h ∧ h ≤ 255) :
    Calls Try.prog 36 #[.string s, .int .i64 (i : Int), .int .i64 h] w fun e w' => e = .returned (.tuple #[.int .i64 (moveAtB s i (3 * h).toNat).1, .string (moveAtB s i (3 * h).toNat).2.1, .int .i64 (moveAtB s i (3 * h).toNat).2.2.1, .int .i64 (moveAtB s i (3 * h).toNat).2.2.2]) ∧ w' = w := by
  have hb := atB_bound s i
  have hn : 3 * h = (((3 * h).toNat : Nat) : Int) := by omega
  obtain ⟨n, hnn⟩ : ∃ n, (3 * h).toNat = n := ⟨_, rfl⟩
  rw [hnn] at hn ⊢
  have hn1 : n ≤ 1000 := by omega
  have HN := hide hnn
  clear hnn
  obtain ⟨q, hq⟩ : ∃ q, atB s i = q := ⟨_, rfl⟩
  rw [hq] at hb
  by_cases h0 : q = 0
  · have HM : Hid (moveAtB s i n = (-1, ⟨#[]⟩, 0, 1)) := by show _ = _; unfold moveAtB; rw [hq]; exact if_pos h0
    have hB : (q - 1 == -1) = true := by simp; omega
    have hC : (q == 0) = true := by simp [h0]
    have HQ := hide hq
    clear hq h0
    go_enter Try.func36, Try.ntmps36
    go_wp2_with (go_at_call 34; refine (at_nat s i _ hs (by omega)).mono ?_; rintro e w' ⟨rfl, rfl⟩; rw [HQ.out])
    refine bodyPost_ret (v := .tuple #[.int .i64 (-1), .string ⟨#[]⟩, .int .i64 0, .int .i64 1]) (by simp [results, Try.results36, go_sem]) rfl ?_
    rw [HM.out]
    exact ⟨rfl, rfl⟩
  · have HM : Hid (moveAtB s i n = (q - 1, s.extract (i + 1) (i + 1 + n), atB s (i + 1 + n), 2 + (n : Int))) := by show _ = _; unfold moveAtB; rw [hq]; exact if_neg h0
    have hB : (q - 1 == -1) = false := beq_eq_false_iff_ne.2 (by omega)
    have hC : (q == 0) = false := beq_eq_false_iff_ne.2 h0
    have HQ := hide hq
    obtain ⟨q2, hq2⟩ : ∃ q, atB s (i + 1 + n) = q := ⟨_, rfl⟩
    have hq3 : atB s ((i : Int) + 1 + (n : Int)).toNat = q2 := by rw [← hq2]; exact congrArg (atB s) (by omega)
    rw [hq2] at HM
    have HQ2 := hide hq3
    obtain ⟨c, hc⟩ : ∃ c, s.extract (i + 1) (i + 1 + n) = c := ⟨_, rfl⟩
    have hc2 : s.extract ((i : Int) + 1).toNat (((i : Int) + 1).toNat + (n : Int).toNat) = c := by
      rw [← hc, Int.toNat_natCast, show ((i : Int) + 1).toNat = i + 1 by omega]
    rw [hc] at HM
    have HC := hide hc2
    clear hq h0 hq2 hq3 hc hc2
    go_enter Try.func36, Try.ntmps36
    go_wp2_with (first
      | (go_at_call 34; refine (at_is s _ _ hs (by omega) (by omega)).mono ?_; rintro e w' ⟨rfl, rfl⟩; first | rw [Int.toNat_natCast, HQ.out] | rw [HQ2.out])
      | (go_at_call 35; refine (cut_is s _ _ _ hs (by omega) (by omega) (by omega) (by omega)).mono ?_; rintro e w' ⟨rfl, rfl⟩; rw [HC.out]))
    refine bodyPost_ret (v := .tuple #[.int .i64 (q - 1), .string c, .int .i64 q2, .int .i64 (2 + (n : Int))]) (by simp [results, Try.results36, go_sem]) rfl ?_
    rw [HM.out]
    exact ⟨rfl, rfl⟩
end Go.Proofs.Ytpecfjejfkcolaa

/- moot.Decode. -/
namespace Go.Proofs.Ytpecfjejfkcolaa
open Go.RowKit Go.Shelf
set_option linter.unusedVariables false
theorem okMsg_iff {s : ByteArray} : okMsg s = true ↔ (readMsg s false).2.2 = false ∧ (readMsg s false).2.1.size = 0 ∧ mayB (readMsg s false).1 = true := by
  unfold okMsg
  simp only [Bool.and_eq_true, Bool.not_eq_true', decide_eq_true_eq]
theorem wDec_no (s : ByteArray) (w : World) (hs : s.size ≤ maxLen) (h : okMsg s = false) :
    Calls Try.prog 33 #[.string s] w fun e w' => e = .returned (.tuple #[noMsg, .int .i64 2]) ∧ Below w.heap.size w w' := by
  cases h1 : (readMsg s false).2.2 with
  | true => exact wDec_short s w hs h1
  | false =>
    by_cases h2 : (readMsg s false).2.1.size = 0
    · cases h3 : mayB (readMsg s false).1 with
      | true => rw [okMsg_iff.2 ⟨h1, h2, h3⟩] at h; cases h
      | false => exact wDec_not s w hs h1 h2 h3
    · exact wDec_long s w hs h1 h2
set_option maxRecDepth 100000 in
set_option maxHeartbeats 2000000 in
theorem decode_no (s : ByteArray) (w : World) (hs : s.size ≤ maxLen) (h : okMsg s = false) :
    Calls Try.prog 18 #[.string s] w fun e w' => e = .returned (.tuple #[noMsg, .int .i64 2]) ∧ Below w.heap.size w w' := by
  have HA := hide (World.alloc_heap_new w (.cells #[.int .i64 0, .int .i64 0, .int .i64 0, .int .i64 0, .string ⟨#[]⟩, .int .i64 0, .int .i64 0, .slice none 0 0] 39 (0, 0)))
  have H := hide h
  clear h
  go_enter Try.func18, Try.ntmps18
  go_wp2_with (go_at_call 33; refine (wDec_no s _ hs H.out).mono ?_; rintro e w1 ⟨rfl, hb1⟩; have a1 := (hb1.block _ (lt_of_block HA.out)).trans HA.out; have t0 := box_read (i := 0) a1 rfl; have e0 := free_of (j := 0) a1; have t1 := box_read (i := 1) a1 rfl; have e1 := free_of (j := 1) a1; have t2 := box_read (i := 2) a1 rfl; have e2 := free_of (j := 2) a1; have t3 := box_read (i := 3) a1 rfl; have e3 := free_of (j := 3) a1; have t4 := box_read (i := 4) a1 rfl; have e4 := free_of (j := 4) a1; have t5 := box_read (i := 5) a1 rfl; have e5 := free_of (j := 5) a1; have t6 := box_read (i := 6) a1 rfl; have e6 := free_of (j := 6) a1; have t7 := box_read (i := 7) a1 rfl; have e7 := free_of (j := 7) a1)
  refine bodyPost_ret (v := .tuple #[noMsg, .int .i64 2]) (by simp [results, Try.results18, go_sem, t0, t1, t2, t3, t4, t5, t6, t7]) rfl ⟨rfl, ?_⟩
  have B1 : Below w.heap.size w w1 := ((Below.refl _ w).alloc (Nat.le_refl _) _).trans (hb1.mono (by simp))
  exact ((((((((B1.setCell (p := ⟨w.heap.size, 0, none⟩) (Nat.le_refl _) _).setCell (p := ⟨w.heap.size, 1, none⟩) (Nat.le_refl _) _).setCell (p := ⟨w.heap.size, 2, none⟩) (Nat.le_refl _) _).setCell (p := ⟨w.heap.size, 3, none⟩) (Nat.le_refl _) _).setCell (p := ⟨w.heap.size, 4, none⟩) (Nat.le_refl _) _).setCell (p := ⟨w.heap.size, 5, none⟩) (Nat.le_refl _) _).setCell (p := ⟨w.heap.size, 6, none⟩) (Nat.le_refl _) _).setCell (p := ⟨w.heap.size, 7, none⟩) (Nat.le_refl _) _)
set_option maxRecDepth 100000 in
set_option maxHeartbeats 2000000 in
theorem decode_ok (s : ByteArray) (w : World) (hs : s.size ≤ maxLen) (h : okMsg s = true) :
    Calls Try.prog 18 #[.string s] w fun e w' => ∃ v, e = .returned (.tuple #[mgV (readMsg s false).1 v, .int .i64 0]) ∧ MovesRow w w' v (readMsg s false).1.moves ∧ Below w.heap.size w w' := by
  have HA := hide (World.alloc_heap_new w (.cells #[.int .i64 0, .int .i64 0, .int .i64 0, .int .i64 0, .string ⟨#[]⟩, .int .i64 0, .int .i64 0, .slice none 0 0] 39 (0, 0)))
  obtain ⟨h1, h2, h3⟩ := okMsg_iff.1 h
  have hd := fun W => wDec_ok s W hs h1 h2 h3
  clear h h1 h2 h3
  generalize (readMsg s false).1 = m at hd ⊢
  obtain ⟨k, f, h, r, c, p, b, l⟩ := m
  dsimp only at hd ⊢
  have HD := hide hd
  clear hd
  go_enter Try.func18, Try.ntmps18
  go_wp2_with (go_at_call 33; refine (HD.out _).mono ?_; rintro e w1 ⟨v, rfl, hrow, hb1⟩; obtain ⟨ao, ln, rfl⟩ := hrow.slice; have HROW := hide hrow; clear hrow; have a1 := (hb1.block _ (lt_of_block HA.out)).trans HA.out; have t0 := box_read (i := 0) a1 rfl; have e0 := free_of (j := 0) a1; have t1 := box_read (i := 1) a1 rfl; have e1 := free_of (j := 1) a1; have t2 := box_read (i := 2) a1 rfl; have e2 := free_of (j := 2) a1; have t3 := box_read (i := 3) a1 rfl; have e3 := free_of (j := 3) a1; have t4 := box_read (i := 4) a1 rfl; have e4 := free_of (j := 4) a1; have t5 := box_read (i := 5) a1 rfl; have e5 := free_of (j := 5) a1; have t6 := box_read (i := 6) a1 rfl; have e6 := free_of (j := 6) a1; have t7 := box_read (i := 7) a1 rfl; have e7 := free_of (j := 7) a1)
  refine bodyPost_ret (v := .tuple #[mgV ⟨k, f, h, r, c, p, b, l⟩ (.slice ao ln ln), .int .i64 0]) (by simp [results, Try.results18, go_sem, t0, t1, t2, t3, t4, t5, t6, t7]) rfl ?_
  have B1 : Below w.heap.size w w1 := ((Below.refl _ w).alloc (Nat.le_refl _) _).trans (hb1.mono (by simp))
  refine ⟨_, rfl, HROW.out.mono (w := w) (by simp) ?_, ((((((((B1.setCell (p := ⟨w.heap.size, 0, none⟩) (Nat.le_refl _) _).setCell (p := ⟨w.heap.size, 1, none⟩) (Nat.le_refl _) _).setCell (p := ⟨w.heap.size, 2, none⟩) (Nat.le_refl _) _).setCell (p := ⟨w.heap.size, 3, none⟩) (Nat.le_refl _) _).setCell (p := ⟨w.heap.size, 4, none⟩) (Nat.le_refl _) _).setCell (p := ⟨w.heap.size, 5, none⟩) (Nat.le_refl _) _).setCell (p := ⟨w.heap.size, 6, none⟩) (Nat.le_refl _) _).setCell (p := ⟨w.heap.size, 7, none⟩) (Nat.le_refl _) _)⟩
  intro g o hg ho
  simp only [World.size_alloc] at hg
  exact heap_other (heap_other (heap_other (heap_other (heap_other (heap_other (heap_other (heap_other ho (by omega)) (by omega)) (by omega)) (by omega)) (by omega)) (by omega)) (by omega)) (by omega)
end Go.Proofs.Ytpecfjejfkcolaa

/- Reading undoes writing, and writing reading: the plain mathematics. -/
namespace Go.Proofs.Ytpecfjejfkcolaa
set_option linter.unusedVariables false

theorem ba_ext {a b : ByteArray} (h : a.data.toList = b.data.toList) : a = b := ByteArray.ext (Array.toList_inj.1 h)
theorem data_app (a b : ByteArray) : (a ++ b).data.toList = a.data.toList ++ b.data.toList := by rw [ByteArray.data_append, Array.toList_append]
theorem data_cut (s : ByteArray) (i j : Nat) : (s.extract i j).data.toList = (s.data.toList.drop i).take (j - i) := by
  rw [ByteArray.data_extract, Array.toList_extract]
theorem size_len (s : ByteArray) : s.data.toList.length = s.size := by rw [Array.length_toList]; rfl
theorem app_nil (a : ByteArray) : a ++ ⟨#[]⟩ = a := ba_ext (by rw [data_app]; simp)
theorem byte_of {n : Int} (h0 : 0 ≤ n) (h1 : n < 256) : (((UInt8.ofNat n.toNat).toNat : Nat) : Int) = n := by rw [UInt8.toNat_ofNat']; omega
theorem numB_one {n : Int} (t : ByteArray) (sh : Bool) (h0 : 0 ≤ n) (h1 : n < 256) : numB (oneB n ++ t) sh = (n, t, sh) := by
  have hs : 0 < (oneB n ++ t).size := by rw [ByteArray.size_append, oneB_size]; omega
  have e0 : (oneB n ++ t)[0] = UInt8.ofNat n.toNat := by
    rw [ByteArray.getElem_append_left (by rw [oneB_size]; omega)]
    rfl
  have e1 : (oneB n ++ t).extract 1 (oneB n ++ t).size = t := by
    apply ba_ext
    rw [data_cut, data_app]
    show List.take _ (List.drop 1 ([UInt8.ofNat n.toNat] ++ t.data.toList)) = _
    rw [ByteArray.size_append, oneB_size]
    simp only [List.singleton_append, List.drop_succ_cons, List.drop_zero]
    exact List.take_of_length_le (by rw [size_len]; omega)
  unfold numB
  rw [dif_pos hs, e0, e1, byte_of h0 h1]
theorem textB_app {n : Nat} {c : ByteArray} (t : ByteArray) (sh : Bool) (h : c.size = n) : textB n (c ++ t) sh = (c, t, sh) := by
  subst h
  unfold textB
  rw [if_neg (by rw [ByteArray.size_append]; omega)]
  have e0 : (c ++ t).extract 0 c.size = c := by
    apply ba_ext
    rw [data_cut, data_app, ← size_len]
    simp
  have e1 : (c ++ t).extract c.size (c ++ t).size = t := by
    apply ba_ext
    rw [data_cut, data_app, ByteArray.size_append, ← size_len c, List.drop_left]
    exact List.take_of_length_le (by rw [size_len]; omega)
  rw [e0, e1]
/-- and back -/
theorem numB_inv {s t : ByteArray} {sh : Bool} {n : Int} (h : numB s sh = (n, t, false)) : sh = false ∧ s = oneB n ++ t ∧ 0 ≤ n ∧ n < 256 := by
  unfold numB at h
  split at h
  · rename_i hs
    simp only [Prod.mk.injEq] at h
    obtain ⟨rfl, rfl, rfl⟩ := h
    have hb := s[0].toNat_lt
    refine ⟨rfl, ?_, by omega, by omega⟩
    apply ba_ext
    rw [data_app, data_cut]
    have hl : 0 < s.data.toList.length := by rw [size_len]; exact hs
    have e : s.data.toList = s.data.toList[0] :: s.data.toList.drop 1 := by
      rw [← List.drop_eq_getElem_cons hl]; rfl
    have e2 : (oneB (s[0].toNat : Int)).data.toList = [s.data.toList[0]] := by
      unfold oneB
      rw [Int.toNat_natCast]
      show [UInt8.ofNat s[0].toNat] = _
      rw [UInt8.ofNat_toNat]
      rfl
    rw [e2, List.take_of_length_le (by rw [List.length_drop, size_len]; exact Nat.le_refl _)]
    exact e
  · simp at h
theorem textB_inv {n : Nat} {s c t : ByteArray} {sh : Bool} (h : textB n s sh = (c, t, false)) : sh = false ∧ s = c ++ t ∧ c.size = n := by
  unfold textB at h
  split at h
  · simp at h
  · rename_i hs
    simp only [Prod.mk.injEq] at h
    obtain ⟨rfl, rfl, rfl⟩ := h
    refine ⟨rfl, ?_, ?_⟩
    · apply ba_ext
      rw [data_app, data_cut, data_cut, Nat.sub_zero, List.drop_zero, List.take_of_length_le (l := s.data.toList.drop n) (by rw [List.length_drop, size_len]; exact Nat.le_refl _)]
      exact (List.take_append_drop n _).symm
    · rw [ByteArray.size_extract]; omega
end Go.Proofs.Ytpecfjejfkcolaa
