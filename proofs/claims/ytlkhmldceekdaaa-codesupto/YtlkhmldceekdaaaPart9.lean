import Derived.Test.YtlkhmldceekdaaaPart8
import Derived.Lib.SlicesS
/- moot.Decode. -/
namespace Go.Proofs.Ytlkhmldceekdaaa
open Go.RowKit Go.Shelf
set_option linter.unusedVariables false
theorem okMsg_iff {s : ByteArray} : okMsg s = true ↔ (readMsg s false).2.2 = false ∧ (readMsg s false).2.1.size = 0 ∧ mayB (readMsg s false).1 = true := by
  unfold okMsg
  simp only [Bool.and_eq_true, Bool.not_eq_true', decide_eq_true_eq]
theorem wDec_no (s : ByteArray) (w : World) (hs : s.size ≤ maxLen) (h : okMsg s = false) :
    Calls Try.prog 33 #[.string s] w fun e w' => e = .returned (.tuple #[noMsg, .int .i64 2]) ∧ Below w.heap.size w w' := by
  cases h1 : (readMsg s false).2.2 with
  | true => exact wDec_short s w hs h1
  | false =>
    by_cases h2 : (readMsg s false).2.1.size = 0
    · cases h3 : mayB (readMsg s false).1 with
      | true => rw [okMsg_iff.2 ⟨h1, h2, h3⟩] at h; cases h
      | false => exact wDec_not s w hs h1 h2 h3
    · exact wDec_long s w hs h1 h2
set_option maxRecDepth 100000 in
set_option maxHeartbeats 2000000 in
theorem decode_no (s : ByteArray) (w : World) (hs : s.size ≤ maxLen) (h : okMsg s = false) :
    Calls Try.prog 18 #[.string s] w fun e w' => e = .returned (.tuple #[noMsg, .int .i64 2]) ∧ Below w.heap.size w w' := by
  have HA := hide (World.alloc_heap_new w (.cells #[.int .i64 0, .int .i64 0, .int .i64 0, .int .i64 0, .string ⟨#[]⟩, .int .i64 0, .int .i64 0, .slice none 0 0] 39 (0, 0)))
  have H := hide h
  clear h
  go_enter Try.func18, Try.ntmps18
  go_wp2_with (go_at_call 33; refine (wDec_no s _ hs H.out).mono ?_; rintro e w1 ⟨rfl, hb1⟩; have a1 := (hb1.block _ (lt_of_block HA.out)).trans HA.out; have t0 := box_read (i := 0) a1 rfl; have e0 := free_of (j := 0) a1; have t1 := box_read (i := 1) a1 rfl; have e1 := free_of (j := 1) a1; have t2 := box_read (i := 2) a1 rfl; have e2 := free_of (j := 2) a1; have t3 := box_read (i := 3) a1 rfl; have e3 := free_of (j := 3) a1; have t4 := box_read (i := 4) a1 rfl; have e4 := free_of (j := 4) a1; have t5 := box_read (i := 5) a1 rfl; have e5 := free_of (j := 5) a1; have t6 := box_read (i := 6) a1 rfl; have e6 := free_of (j := 6) a1; have t7 := box_read (i := 7) a1 rfl; have e7 := free_of (j := 7) a1)
  refine bodyPost_ret (v := .tuple #[noMsg, .int .i64 2]) (by simp [results, Try.results18, go_sem, t0, t1, t2, t3, t4, t5, t6, t7]) rfl ⟨rfl, ?_⟩
  have B1 : Below w.heap.size w w1 := ((Below.refl _ w).alloc (Nat.le_refl _) _).trans (hb1.mono (by simp))
  exact ((((((((B1.setCell (p := ⟨w.heap.size, 0, none⟩) (Nat.le_refl _) _).setCell (p := ⟨w.heap.size, 1, none⟩) (Nat.le_refl _) _).setCell (p := ⟨w.heap.size, 2, none⟩) (Nat.le_refl _) _).setCell (p := ⟨w.heap.size, 3, none⟩) (Nat.le_refl _) _).setCell (p := ⟨w.heap.size, 4, none⟩) (Nat.le_refl _) _).setCell (p := ⟨w.heap.size, 5, none⟩) (Nat.le_refl _) _).setCell (p := ⟨w.heap.size, 6, none⟩) (Nat.le_refl _) _).setCell (p := ⟨w.heap.size, 7, none⟩) (Nat.le_refl _) _)
set_option maxRecDepth 100000 in
set_option maxHeartbeats 2000000 in
theorem decode_ok (s : ByteArray) (w : World) (hs : s.size ≤ maxLen) (h : okMsg s = true) :
    Calls Try.prog 18 #[.string s] w fun e w' => ∃ v, e = .returned (.tuple #[mgV (readMsg s false).1 v, .int .i64 0]) ∧ MovesRow w w' v (readMsg s false).1.moves ∧ Below w.heap.size w w' := by
  have HA := hide (World.alloc_heap_new w (.cells #[.int .i64 0, .int .i64 0, .int .i64 0, .int .i64 0, .string ⟨#[]⟩, .int .i64 0, .int .i64 0, .slice none 0 0] 39 (0, 0)))
  obtain ⟨h1, h2, h3⟩ := okMsg_iff.1 h
  have hd := fun W => wDec_ok s W hs h1 h2 h3
  clear h h1 h2 h3
  generalize (readMsg s false).1 = m at hd ⊢
  obtain ⟨k, f, h, r, c, p, b, l⟩ := m
  dsimp only at hd ⊢
  have HD := hide hd
  clear hd
  go_enter Try.func18, Try.ntmps18
  go_wp2_with (go_at_call 33; refine (HD.out _).mono ?_; rintro e w1 ⟨v, rfl, hrow, hb1⟩; obtain ⟨ao, ln, rfl⟩ := hrow.slice; have HROW := hide hrow; clear hrow; have a1 := (hb1.block _ (lt_of_block HA.out)).trans HA.out; have t0 := box_read (i := 0) a1 rfl; have e0 := free_of (j := 0) a1; have t1 := box_read (i := 1) a1 rfl; have e1 := free_of (j := 1) a1; have t2 := box_read (i := 2) a1 rfl; have e2 := free_of (j := 2) a1; have t3 := box_read (i := 3) a1 rfl; have e3 := free_of (j := 3) a1; have t4 := box_read (i := 4) a1 rfl; have e4 := free_of (j := 4) a1; have t5 := box_read (i := 5) a1 rfl; have e5 := free_of (j := 5) a1; have t6 := box_read (i := 6) a1 rfl; have e6 := free_of (j := 6) a1; have t7 := box_read (i := 7) a1 rfl; have e7 := free_of (j := 7) a1)
  refine bodyPost_ret (v := .tuple #[mgV ⟨k, f, h, r, c, p, b, l⟩ (.slice ao ln ln), .int .i64 0]) (by simp [results, Try.results18, go_sem, t0, t1, t2, t3, t4, t5, t6, t7]) rfl ?_
  have B1 : Below w.heap.size w w1 := ((Below.refl _ w).alloc (Nat.le_refl _) _).trans (hb1.mono (by simp))
  refine ⟨_, rfl, HROW.out.mono (w := w) (by simp) ?_, ((((((((B1.setCell (p := ⟨w.heap.size, 0, none⟩) (Nat.le_refl _) _).setCell (p := ⟨w.heap.size, 1, none⟩) (Nat.le_refl _) _).setCell (p := ⟨w.heap.size, 2, none⟩) (Nat.le_refl _) _).setCell (p := ⟨w.heap.size, 3, none⟩) (Nat.le_refl _) _).setCell (p := ⟨w.heap.size, 4, none⟩) (Nat.le_refl _) _).setCell (p := ⟨w.heap.size, 5, none⟩) (Nat.le_refl _) _).setCell (p := ⟨w.heap.size, 6, none⟩) (Nat.le_refl _) _).setCell (p := ⟨w.heap.size, 7, none⟩) (Nat.le_refl _) _)⟩
  intro g o hg ho
  simp only [World.size_alloc] at hg
  exact heap_other (heap_other (heap_other (heap_other (heap_other (heap_other (heap_other (heap_other ho (by omega)) (by omega)) (by omega)) (by omega)) (by omega)) (by omega)) (by omega)) (by omega)
end Go.Proofs.Ytlkhmldceekdaaa

/- Reading undoes writing, and writing reading: the plain mathematics. -/
namespace Go.Proofs.Ytlkhmldceekdaaa
set_option linter.unusedVariables false

theorem ba_ext {a b : ByteArray} (h : a.data.toList = b.data.toList) : a = b := ByteArray.ext (Array.toList_inj.1 h)
theorem data_app (a b : ByteArray) : (a ++ b).data.toList = a.data.toList ++ b.data.toList := by rw [ByteArray.data_append, Array.toList_append]
theorem data_cut (s : ByteArray) (i j : Nat) : (s.extract i j).data.toList = (s.data.toList.drop i).take (j - i) := by
  rw [ByteArray.data_extract, Array.toList_extract]
theorem size_len (s : ByteArray) : s.data.toList.length = s.size := by rw [Array.length_toList]; rfl
theorem app_nil (a : ByteArray) : a ++ ⟨#[]⟩ = a := ba_ext (by rw [data_app]; simp)
theorem byte_of {n : Int} (h0 : 0 ≤ n) (h1 : n < 256) : (((UInt8.ofNat n.toNat).toNat : Nat) : Int) = n := by rw [UInt8.toNat_ofNat']; omega
theorem numB_one {n : Int} (t : ByteArray) (sh : Bool) (h0 : 0 ≤ n) (h1 : n < 256) : numB (oneB n ++ t) sh = (n, t, sh) := by
  have hs : 0 < (oneB n ++ t).size := by rw [ByteArray.size_append, oneB_size]; omega
  have e0 : (oneB n ++ t)[0] = UInt8.ofNat n.toNat := by
    rw [ByteArray.getElem_append_left (by rw [oneB_size]; omega)]
    rfl
  have e1 : (oneB n ++ t).extract 1 (oneB n ++ t).size = t := by
    apply ba_ext
    rw [data_cut, data_app]
    show List.take _ (List.drop 1 ([UInt8.ofNat n.toNat] ++ t.data.toList)) = _
    rw [ByteArray.size_append, oneB_size]
    simp only [List.singleton_append, List.drop_succ_cons, List.drop_zero]
    exact List.take_of_length_le (by rw [size_len]; omega)
  unfold numB
  rw [dif_pos hs, e0, e1, byte_of h0 h1]
theorem textB_app {n : Nat} {c : ByteArray} (t : ByteArray) (sh : Bool) (h : c.size = n) : textB n (c ++ t) sh = (c, t, sh) := by
  subst h
  unfold textB
  rw [if_neg (by rw [ByteArray.size_append]; omega)]
  have e0 : (c ++ t).extract 0 c.size = c := by
    apply ba_ext
    rw [data_cut, data_app, ← size_len]
    simp
  have e1 : (c ++ t).extract c.size (c ++ t).size = t := by
    apply ba_ext
    rw [data_cut, data_app, ByteArray.size_append, ← size_len c, List.drop_left]
    exact List.take_of_length_le (by rw [size_len]; omega)
  rw [e0, e1]
/-- and back -/
theorem numB_inv {s t : ByteArray} {sh : Bool} {n : Int} (h : numB s sh = (n, t, false)) : sh = false ∧ s = oneB n ++ t ∧ 0 ≤ n ∧ n < 256 := by
  unfold numB at h
  split at h
  · rename_i hs
    simp only [Prod.mk.injEq] at h
    obtain ⟨rfl, rfl, rfl⟩ := h
    have hb := s[0].toNat_lt
    refine ⟨rfl, ?_, by omega, by omega⟩
    apply ba_ext
    rw [data_app, data_cut]
    have hl : 0 < s.data.toList.length := by rw [size_len]; exact hs
    have e : s.data.toList = s.data.toList[0] :: s.data.toList.drop 1 := by
      rw [← List.drop_eq_getElem_cons hl]; rfl
    have e2 : (oneB (s[0].toNat : Int)).data.toList = [s.data.toList[0]] := by
      unfold oneB
      rw [Int.toNat_natCast]
      show [UInt8.ofNat s[0].toNat] = _
      rw [UInt8.ofNat_toNat]
      rfl
    rw [e2, List.take_of_length_le (by rw [List.length_drop, size_len]; exact Nat.le_refl _)]
    exact e
  · simp at h
theorem textB_inv {n : Nat} {s c t : ByteArray} {sh : Bool} (h : textB n s sh = (c, t, false)) : sh = false ∧ s = c ++ t ∧ c.size = n := by
  unfold textB at h
  split at h
  · simp at h
  · rename_i hs
    simp only [Prod.mk.injEq] at h
    obtain ⟨rfl, rfl, rfl⟩ := h
    refine ⟨rfl, ?_, ?_⟩
    · apply ba_ext
      rw [data_app, data_cut, data_cut, Nat.sub_zero, List.drop_zero, List.take_of_length_le (l := s.data.toList.drop n) (by rw [List.length_drop, size_len]; exact Nat.le_refl _)]
      exact (List.take_append_drop n _).symm
    · rw [ByteArray.size_extract]; omega
end Go.Proofs.Ytlkhmldceekdaaa

/- Reading undoes writing, and writing reading: Moves, messages. -/
namespace Go.Proofs.Ytlkhmldceekdaaa
set_option linter.unusedVariables false

def movesE : List Mv → ByteArray
  | [] => ⟨#[]⟩
  | x :: l => oneB x.node ++ (mvB x.prep x.chain x.by' ++ movesE l)
theorem movesB_eq : ∀ (l : List Mv) (s : ByteArray), movesB s l = s ++ movesE l
  | [], s => (app_nil s).symm
  | x :: l, s => by rw [movesB, movesB_eq l, movesE, ByteArray.append_assoc, ByteArray.append_assoc]
theorem moveB_enc {p b h r : Int} {c : ByteArray} (node : Int) (t : ByteArray) (sh : Bool) (hm : mvOk p c b h r = true) (hr : r ≤ 9) : moveB node (h * 3).toNat (mvB p c b ++ t) sh = (⟨node, p, c, b⟩, t, sh) := by
  rw [mvOk_iff] at hm
  unfold moveB
  rcases hm with ⟨rfl, hc, rfl⟩ | ⟨hp, h0, h1, hc, hb⟩
  · have e : mvB (-1) c 0 = oneB 0 := rfl
    rw [e, numB_one t sh (by omega) (by omega), if_pos rfl]
    have ec : c = ByteArray.empty := ByteArray.ext (Array.eq_empty_of_size_eq_zero hc)
    rw [ec]
  · have e : mvB p c b ++ t = oneB (p + 1) ++ (c ++ (oneB b ++ t)) := by
      unfold mvB
      rw [if_neg hp, ByteArray.append_assoc, ByteArray.append_assoc]
    rw [e, numB_one _ sh (by omega) (by omega)]
    dsimp only
    rw [if_neg (by omega), textB_app _ sh (show c.size = (h * 3).toNat by omega)]
    dsimp only
    rw [numB_one _ sh (by omega) (by omega)]
    dsimp only
    rw [show p + 1 - 1 = p by omega]
theorem readMoves_enc {h r : Int} (hr : r ≤ 9) : ∀ (l : List Mv) (z : Int) (t : ByteArray) (sh : Bool), riseOk h r z l = true → readMoves (h * 3).toNat l.length (movesE l ++ t) sh = (l, t, sh)
  | [], z, t, sh, _ => by
    rw [List.length_nil, readMoves]
    have e : movesE [] ++ t = t := ba_ext (by rw [data_app]; rfl)
    rw [e]
  | x :: l, z, t, sh, hz => by
    rw [riseOk, Bool.and_eq_true, Bool.and_eq_true, decide_eq_true_eq] at hz
    rw [List.length_cons, readMoves, movesE, ByteArray.append_assoc, ByteArray.append_assoc]
    try dsimp only
    rw [numB_one _ sh (by omega) (by omega)]
    dsimp only
    rw [moveB_enc x.node _ sh hz.2.1 hr]
    dsimp only
    rw [readMoves_enc hr l _ t sh hz.2.2]
theorem moveB_inv {node : Int} {n : Nat} {s t : ByteArray} {sh : Bool} {x : Mv} (h : moveB node n s sh = (x, t, false)) : sh = false ∧ x.node = node ∧ s = mvB x.prep x.chain x.by' ++ t := by
  unfold moveB at h
  obtain ⟨p0, s1, sh1, h1⟩ : ∃ p s1 sh1, numB s sh = (p, s1, sh1) := ⟨_, _, _, rfl⟩
  rw [h1] at h
  dsimp only at h
  split at h
  · rename_i h0
    simp only [Prod.mk.injEq] at h
    obtain ⟨rfl, rfl, rfl⟩ := h
    obtain ⟨e1, e2, _⟩ := numB_inv h1
    refine ⟨e1, rfl, ?_⟩
    rw [e2, h0]; rfl
  · rename_i h0
    obtain ⟨c, s2, sh2, h2⟩ : ∃ c s2 sh2, textB n s1 sh1 = (c, s2, sh2) := ⟨_, _, _, rfl⟩
    rw [h2] at h
    dsimp only at h
    obtain ⟨y, s3, sh3, h3⟩ : ∃ c s3 sh3, numB s2 sh2 = (c, s3, sh3) := ⟨_, _, _, rfl⟩
    rw [h3] at h
    simp only [Prod.mk.injEq] at h
    obtain ⟨rfl, rfl, rfl⟩ := h
    obtain ⟨rfl, e3, _⟩ := numB_inv h3
    obtain ⟨rfl, e2, _⟩ := textB_inv h2
    obtain ⟨e1, e0, _⟩ := numB_inv h1
    refine ⟨e1, rfl, ?_⟩
    dsimp only
    unfold mvB
    rw [if_neg (by omega), show p0 - 1 + 1 = p0 by omega, ByteArray.append_assoc, ByteArray.append_assoc, ← e3, ← e2, ← e0]
theorem readMoves_inv (n : Nat) : ∀ (k : Nat) (s t : ByteArray) (sh : Bool) (l : List Mv), readMoves n k s sh = (l, t, false) → sh = false ∧ s = movesE l ++ t ∧ l.length = k
  | 0, s, t, sh, l, h => by
    rw [readMoves] at h
    simp only [Prod.mk.injEq] at h
    obtain ⟨rfl, rfl, rfl⟩ := h
    exact ⟨rfl, ba_ext (by rw [data_app]; rfl), rfl⟩
  | k + 1, s, t, sh, l, h => by
    rw [readMoves] at h
    try dsimp only at h
    obtain ⟨nd, s1, sh1, h1⟩ : ∃ p s1 sh1, numB s sh = (p, s1, sh1) := ⟨_, _, _, rfl⟩
    rw [h1] at h
    dsimp only at h
    obtain ⟨x, s2, sh2, h2⟩ : ∃ x s2 sh2, moveB nd n s1 sh1 = (x, s2, sh2) := ⟨_, _, _, rfl⟩
    rw [h2] at h
    dsimp only at h
    obtain ⟨l', s3, sh3, h3⟩ : ∃ x s3 sh3, readMoves n k s2 sh2 = (x, s3, sh3) := ⟨_, _, _, rfl⟩
    rw [h3] at h
    simp only [Prod.mk.injEq] at h
    obtain ⟨rfl, rfl, rfl⟩ := h
    obtain ⟨rfl, e3, e4⟩ := readMoves_inv n k _ _ _ _ h3
    obtain ⟨rfl, e5, e2⟩ := moveB_inv h2
    obtain ⟨e1, e0, _⟩ := numB_inv h1
    refine ⟨e1, ?_, by rw [List.length_cons, e4]⟩
    rw [movesE, ByteArray.append_assoc, ByteArray.append_assoc, ← e3, ← e2, e5, ← e0]

theorem read_head {m : Mg} (t : ByteArray) (h1 : 1 ≤ m.kind ∧ m.kind ≤ 6) (h2 : 0 ≤ m.frm ∧ m.frm ≤ 6) (h3 : 1 ≤ m.height ∧ m.height ≤ 7) (h4 : 0 ≤ m.round ∧ m.round ≤ 9) : readMsg (headB m ++ t) false = readBody m.kind m.frm m.height m.round (m.height * 3).toNat t false := by
  have e : headB m ++ t = oneB m.kind ++ (oneB m.frm ++ (oneB m.height ++ (oneB m.round ++ t))) := by
    unfold headB
    rw [ByteArray.append_assoc, ByteArray.append_assoc, ByteArray.append_assoc]
  unfold readMsg
  rw [e, numB_one _ _ (by omega) (by omega)]
  dsimp only
  rw [numB_one _ _ (by omega) (by omega)]
  dsimp only
  rw [numB_one _ _ (by omega) (by omega)]
  dsimp only
  rw [numB_one _ _ (by omega) (by omega)]
theorem mg_eta {k f h r p b : Int} {c : ByteArray} {l : List Mv} {m : Mg} (h1 : m.kind = k) (h2 : m.frm = f) (h3 : m.height = h) (h4 : m.round = r) (h5 : m.chain = c) (h6 : m.prep = p) (h7 : m.by' = b) (h8 : m.moves = l) : (⟨k, f, h, r, c, p, b, l⟩ : Mg) = m := by
  subst h1 h2 h3 h4 h5 h6 h7 h8; rfl
theorem empty_of {c : ByteArray} (h : c.size = 0) : c = ⟨#[]⟩ := ByteArray.ext (Array.eq_empty_of_size_eq_zero h)
/-- READING UNDOES WRITING. -/
theorem readMsg_enc {m : Mg} (hm : mayB m = true) : readMsg (encB m) false = (m, ⟨#[]⟩, false) := by
  have hf := may_facts hm
  obtain ⟨f1, f2, f3, f4, f5, f6, f7, f8, f9⟩ := hf
  by_cases k1 : m.kind = 1
  · obtain ⟨_, a1, a2, a3, a4, a5⟩ := (may1_iff k1).1 hm
    rw [enc1_eq k1, movesB_eq, ByteArray.append_assoc, ByteArray.append_assoc, read_head _ f1 f2 f3 f4]
    unfold readBody
    rw [if_pos k1, textB_app _ _ (show m.chain.size = (m.height * 3).toNat by omega)]
    dsimp only
    rw [numB_one _ _ (by omega) (by omega)]
    dsimp only
    have e := readMoves_enc (h := m.height) (r := m.round) (by omega) m.moves (-1) ⟨#[]⟩ false a5
    rw [app_nil] at e
    rw [Int.toNat_natCast, e]
    rw [mg_eta rfl rfl rfl rfl rfl a2.1 a2.2 rfl]
  by_cases k2 : m.kind = 2 ∨ m.kind = 3
  · obtain ⟨_, a1, a2, a3, a4⟩ := (may23_iff k2).1 hm
    rw [enc23_eq k2, read_head _ f1 f2 f3 f4]
    unfold readBody
    rw [if_neg k1, if_pos k2]
    have e := textB_app (n := (m.height * 3).toNat) (c := m.chain) ⟨#[]⟩ false (by omega)
    rw [app_nil] at e
    rw [e]
    dsimp only
    rw [mg_eta rfl rfl rfl rfl rfl a2 a3 (List.length_eq_zero_iff.1 a4)]
  by_cases k4 : m.kind = 4
  · obtain ⟨_, a1, a2⟩ := (may4_iff k4).1 hm
    rw [enc4_eq k4, read_head _ f1 f2 f3 f4]
    unfold readBody
    rw [if_neg k1, if_neg k2, if_pos k4]
    have e := moveB_enc m.frm ⟨#[]⟩ false a1 (by omega)
    rw [app_nil] at e
    rw [e]
    dsimp only
    rw [mg_eta rfl rfl rfl rfl rfl rfl rfl (List.length_eq_zero_iff.1 a2)]
  by_cases k5 : m.kind = 5
  · obtain ⟨_, a1, a2, a3⟩ := (may5_iff k5).1 hm
    rw [enc5_eq k5, ByteArray.append_assoc, read_head _ f1 f2 f3 f4]
    unfold readBody
    rw [if_neg k1, if_neg k2, if_neg k4, if_pos k5, textB_app _ _ (show m.chain.size = (m.height * 3).toNat by omega)]
    dsimp only
    have e := numB_one (n := m.by') ⟨#[]⟩ false (by omega) (by omega)
    rw [app_nil] at e
    rw [e]
    dsimp only
    rw [mg_eta rfl rfl rfl rfl rfl a2 rfl (List.length_eq_zero_iff.1 a3)]
  · have k6 : m.kind = 6 := by omega
    obtain ⟨_, a1, a2, a3, a4⟩ := (may6_iff k6).1 hm
    rw [enc6_eq k6, ← app_nil (headB m), read_head _ f1 f2 f3 f4]
    unfold readBody
    rw [if_neg k1, if_neg k2, if_neg k4, if_neg k5, mg_eta rfl rfl rfl rfl (empty_of a1) a2.1 a2.2 (List.length_eq_zero_iff.1 a3)]
/-- WRITING UNDOES READING. -/
theorem readBody_inv {k f h r : Int} {n : Nat} {s t : ByteArray} {sh : Bool} {m : Mg} (he : readBody k f h r n s sh = (m, t, false)) : sh = false ∧ m.kind = k ∧ m.frm = f ∧ m.height = h ∧ m.round = r ∧ headB m ++ s = encB m ++ t := by
  unfold readBody at he
  split at he
  · rename_i k1
    obtain ⟨c, s1, sh1, h1⟩ : ∃ c s1 sh1, textB n s sh = (c, s1, sh1) := ⟨_, _, _, rfl⟩
    rw [h1] at he
    dsimp only at he
    obtain ⟨q, s2, sh2, h2⟩ : ∃ c s2 sh2, numB s1 sh1 = (c, s2, sh2) := ⟨_, _, _, rfl⟩
    rw [h2] at he
    dsimp only at he
    obtain ⟨l, s3, sh3, h3⟩ : ∃ c s3 sh3, readMoves n q.toNat s2 sh2 = (c, s3, sh3) := ⟨_, _, _, rfl⟩
    rw [h3] at he
    simp only [Prod.mk.injEq] at he
    obtain ⟨rfl, rfl, rfl⟩ := he
    obtain ⟨rfl, e3, e4⟩ := readMoves_inv n _ _ _ _ _ h3
    obtain ⟨rfl, e2, e5, e6⟩ := numB_inv h2
    obtain ⟨e0, e1, _⟩ := textB_inv h1
    refine ⟨e0, rfl, rfl, rfl, rfl, ?_⟩
    rw [enc1_eq k1, movesB_eq]
    dsimp only
    rw [ByteArray.append_assoc, ByteArray.append_assoc, ByteArray.append_assoc, e4, Int.toNat_of_nonneg e5, ← e3, ← e2, ← e1]
  · rename_i k1
    split at he
    · rename_i k2
      obtain ⟨c, s1, sh1, h1⟩ : ∃ c s1 sh1, textB n s sh = (c, s1, sh1) := ⟨_, _, _, rfl⟩
      rw [h1] at he
      simp only [Prod.mk.injEq] at he
      obtain ⟨rfl, rfl, rfl⟩ := he
      obtain ⟨e0, e1, _⟩ := textB_inv h1
      refine ⟨e0, rfl, rfl, rfl, rfl, ?_⟩
      rw [enc23_eq k2, ByteArray.append_assoc]
      dsimp only
      rw [← e1]
    · rename_i k2
      split at he
      · rename_i k4
        obtain ⟨x, s1, sh1, h1⟩ : ∃ c s1 sh1, moveB f n s sh = (c, s1, sh1) := ⟨_, _, _, rfl⟩
        rw [h1] at he
        simp only [Prod.mk.injEq] at he
        obtain ⟨rfl, rfl, rfl⟩ := he
        obtain ⟨e0, _, e1⟩ := moveB_inv h1
        refine ⟨e0, rfl, rfl, rfl, rfl, ?_⟩
        rw [enc4_eq k4, ByteArray.append_assoc]
        dsimp only
        rw [← e1]
      · rename_i k4
        split at he
        · rename_i k5
          obtain ⟨c, s1, sh1, h1⟩ : ∃ c s1 sh1, textB n s sh = (c, s1, sh1) := ⟨_, _, _, rfl⟩
          rw [h1] at he
          dsimp only at he
          obtain ⟨q, s2, sh2, h2⟩ : ∃ c s2 sh2, numB s1 sh1 = (c, s2, sh2) := ⟨_, _, _, rfl⟩
          rw [h2] at he
          simp only [Prod.mk.injEq] at he
          obtain ⟨rfl, rfl, rfl⟩ := he
          obtain ⟨rfl, e2, _⟩ := numB_inv h2
          obtain ⟨e0, e1, _⟩ := textB_inv h1
          refine ⟨e0, rfl, rfl, rfl, rfl, ?_⟩
          rw [enc5_eq k5, ByteArray.append_assoc, ByteArray.append_assoc]
          dsimp only
          rw [← e2, ← e1]
        · rename_i k5
          simp only [Prod.mk.injEq] at he
          obtain ⟨rfl, rfl, rfl⟩ := he
          refine ⟨rfl, rfl, rfl, rfl, rfl, ?_⟩
          unfold encB
          rw [if_neg k1, if_neg k2, if_neg k4, if_neg k5]
theorem readMsg_inv {s t : ByteArray} {m : Mg} (he : readMsg s false = (m, t, false)) : s = encB m ++ t := by
  unfold readMsg at he
  obtain ⟨k, s1, sh1, h1⟩ : ∃ c s1 sh1, numB s false = (c, s1, sh1) := ⟨_, _, _, rfl⟩
  rw [h1] at he
  dsimp only at he
  obtain ⟨f, s2, sh2, h2⟩ : ∃ c s2 sh2, numB s1 sh1 = (c, s2, sh2) := ⟨_, _, _, rfl⟩
  rw [h2] at he
  dsimp only at he
  obtain ⟨h, s3, sh3, h3⟩ : ∃ c s3 sh3, numB s2 sh2 = (c, s3, sh3) := ⟨_, _, _, rfl⟩
  rw [h3] at he
  dsimp only at he
  obtain ⟨r, s4, sh4, h4⟩ : ∃ c s4 sh4, numB s3 sh3 = (c, s4, sh4) := ⟨_, _, _, rfl⟩
  rw [h4] at he
  dsimp only at he
  obtain ⟨rfl, rfl, rfl, rfl, rfl, e⟩ := readBody_inv he
  obtain ⟨rfl, e4, _⟩ := numB_inv h4
  obtain ⟨rfl, e3, _⟩ := numB_inv h3
  obtain ⟨rfl, e2, _⟩ := numB_inv h2
  obtain ⟨_, e1, _⟩ := numB_inv h1
  rw [← e, e1, e2, e3, e4]
  unfold headB
  rw [ByteArray.append_assoc, ByteArray.append_assoc, ByteArray.append_assoc]
/-- what the program takes is what is written -/
theorem okMsg_spec {s : ByteArray} : okMsg s = true ↔ ∃ m, mayB m = true ∧ encB m = s ∧ (readMsg s false).1 = m := by
  rw [okMsg_iff]
  constructor
  · rintro ⟨h1, h2, h3⟩
    refine ⟨_, h3, ?_, rfl⟩
    have e : readMsg s false = ((readMsg s false).1, (readMsg s false).2.1, false) := Prod.ext rfl (Prod.ext rfl h1)
    have e2 := readMsg_inv e
    rw [empty_of h2, app_nil] at e2
    exact e2.symm
  · rintro ⟨m, h1, rfl, _⟩
    rw [readMsg_enc h1]
    exact ⟨rfl, rfl, h1⟩
end Go.Proofs.Ytlkhmldceekdaaa

/- The document's reading by places undoes writing. -/
namespace Go.Proofs.Ytlkhmldceekdaaa
set_option linter.unusedVariables false

theorem at_app (a b : ByteArray) (i : Nat) : atB (a ++ b) (a.size + i) = atB b i := by
  unfold atB
  by_cases h : i < b.size
  · rw [dif_pos h, dif_pos (by rw [ByteArray.size_append]; omega), ByteArray.getElem_append_right (by omega)]
    congr 3
    omega
  · rw [dif_neg h, dif_neg (by rw [ByteArray.size_append]; omega)]
theorem at_one {n : Int} (t : ByteArray) (h0 : 0 ≤ n) (h1 : n < 256) : atB (oneB n ++ t) 0 = n := by
  unfold atB
  rw [dif_pos (by rw [ByteArray.size_append, oneB_size]; omega), ByteArray.getElem_append_left (by rw [oneB_size]; omega)]
  exact byte_of h0 h1
theorem cut_app (a b : ByteArray) (i j : Nat) : (a ++ b).extract (a.size + i) (a.size + j) = b.extract i j := by
  apply ba_ext
  rw [data_cut, data_cut, data_app, ← size_len a, List.drop_append, List.drop_eq_nil_of_le (by omega), List.nil_append, show a.data.toList.length + i - a.data.toList.length = i by omega, show a.data.toList.length + j - (a.data.toList.length + i) = j - i by omega]
theorem cut_one (c t : ByteArray) (n : Nat) (h : c.size = n) : (c ++ t).extract 0 n = c := by
  apply ba_ext
  rw [data_cut, data_app, ← h, ← size_len c]
  simp
/-- the same, at a place that is named otherwise -/
theorem at_at {s a b : ByteArray} {i j : Nat} (hs : s = a ++ b) (h : i = a.size + j) : atB s i = atB b j := by rw [hs, h, at_app]
theorem cut_at {s a b : ByteArray} {i j k l : Nat} (hs : s = a ++ b) (h : i = a.size + j) (h2 : k = a.size + l) : s.extract i k = b.extract j l := by rw [hs, h, h2, cut_app]

def posMoves (n : Nat) : Nat → ByteArray → Nat → List Mv
  | 0, _, _ => []
  | k + 1, s, i => ⟨atB s i, (moveAtB s (i + 1) n).1, (moveAtB s (i + 1) n).2.1, (moveAtB s (i + 1) n).2.2.1⟩ :: posMoves n k s (i + 1 + (moveAtB s (i + 1) n).2.2.2.toNat)
/-- the document's message, by places -/
def posMsg (s : ByteArray) : Mg :=
  let k := atB s 0
  let f := atB s 1
  let h := atB s 2
  let r := atB s 3
  let n := (3 * h).toNat
  if k = 1 then ⟨k, f, h, r, s.extract 4 (4 + n), -1, 0, posMoves n (atB s (4 + n)).toNat s (5 + n)⟩
  else if k = 2 ∨ k = 3 then ⟨k, f, h, r, s.extract 4 (4 + n), -1, 0, []⟩
  else if k = 4 then ⟨k, f, h, r, (moveAtB s 4 n).2.1, (moveAtB s 4 n).1, (moveAtB s 4 n).2.2.1, []⟩
  else if k = 5 then ⟨k, f, h, r, s.extract 4 (4 + n), -1, atB s (4 + n), []⟩
  else ⟨k, f, h, r, ⟨#[]⟩, -1, 0, []⟩
theorem mvB_len {p b h r : Int} {c : ByteArray} {n : Nat} (hm : mvOk p c b h r = true) (hn : n = (3 * h).toNat) : (mvB p c b).size = if p = -1 then 1 else 2 + n := by
  rw [mvOk_iff] at hm
  unfold mvB
  rcases hm with ⟨rfl, hc, rfl⟩ | ⟨hp, h0, h1, hc, hb⟩
  · rfl
  · rw [if_neg hp, if_neg hp, ByteArray.size_append, ByteArray.size_append, oneB_size, oneB_size]; omega
theorem moveAt_enc {p b h r : Int} {c : ByteArray} {s pre t : ByteArray} {i n : Nat} (hs : s = pre ++ (mvB p c b ++ t)) (hi : i = pre.size) (hm : mvOk p c b h r = true) (hr : r ≤ 9) (hn : n = (3 * h).toNat) :
    moveAtB s i n = (p, c, b, ((mvB p c b).size : Int)) := by
  have hl := mvB_len hm hn
  have hm' := hm
  rw [mvOk_iff] at hm
  unfold moveAtB
  rcases hm with ⟨rfl, hc, rfl⟩ | ⟨hp, h0, h1, hc, hb⟩
  · have e0 : atB s i = 0 := by
      rw [at_at (j := 0) hs (by omega)]
      exact at_one t (by omega) (by omega)
    rw [if_pos e0, hl, empty_of hc]
    rfl
  · have e : mvB p c b ++ t = oneB (p + 1) ++ (c ++ (oneB b ++ t)) := by
      unfold mvB
      rw [if_neg hp, ByteArray.append_assoc, ByteArray.append_assoc]
    rw [e] at hs
    have hs2 : s = (pre ++ oneB (p + 1)) ++ (c ++ (oneB b ++ t)) := by rw [hs, ByteArray.append_assoc]
    have hs3 : s = (pre ++ oneB (p + 1) ++ c) ++ (oneB b ++ t) := by rw [hs]; simp only [ByteArray.append_assoc]
    have z2 : (pre ++ oneB (p + 1)).size = i + 1 := by rw [ByteArray.size_append, oneB_size, hi]
    have z3 : (pre ++ oneB (p + 1) ++ c).size = i + 1 + n := by rw [ByteArray.size_append, z2]; omega
    have e0 : atB s i = p + 1 := by
      rw [at_at (j := 0) hs (by omega)]
      exact at_one _ (by omega) (by omega)
    have e1 : s.extract (i + 1) (i + 1 + n) = c := by
      rw [cut_at (j := 0) (l := n) hs2 (by omega) (by omega)]
      exact cut_one _ _ _ (by omega)
    have e2 : atB s (i + 1 + n) = b := by
      rw [at_at (j := 0) hs3 (by omega)]
      exact at_one _ (by omega) (by omega)
    rw [e0, if_neg (by omega), e1, e2, hl, if_neg hp, show p + 1 - 1 = p by omega]
    simp
theorem posMoves_enc {h r : Int} {n : Nat} (hr : r ≤ 9) (hn : n = (3 * h).toNat) : ∀ (l : List Mv) (z : Int) (s pre t : ByteArray) (i : Nat), s = pre ++ (movesE l ++ t) → i = pre.size → riseOk h r z l = true → posMoves n l.length s i = l
  | [], _, _, _, _, _, _, _, _ => rfl
  | x :: l, z, s, pre, t, i, hs, hi, hz => by
    rw [riseOk, Bool.and_eq_true, Bool.and_eq_true, decide_eq_true_eq] at hz
    have hs1 : s = pre ++ (oneB x.node ++ (mvB x.prep x.chain x.by' ++ (movesE l ++ t))) := by
      rw [hs, movesE, ByteArray.append_assoc, ByteArray.append_assoc]
    have hs2 : s = (pre ++ oneB x.node) ++ (mvB x.prep x.chain x.by' ++ (movesE l ++ t)) := by rw [hs1, ByteArray.append_assoc]
    have hs3 : s = (pre ++ oneB x.node ++ mvB x.prep x.chain x.by') ++ (movesE l ++ t) := by rw [hs1]; simp only [ByteArray.append_assoc]
    have z2 : i + 1 = (pre ++ oneB x.node).size := by rw [ByteArray.size_append, oneB_size, hi]
    have e0 : atB s i = x.node := by
      rw [at_at (j := 0) hs1 (by omega)]
      exact at_one _ (by omega) (by omega)
    have e1 := moveAt_enc hs2 z2 hz.2.1 hr hn
    rw [List.length_cons, posMoves, e0, e1]
    dsimp only
    rw [posMoves_enc hr hn l _ s _ t _ hs3 (by rw [ByteArray.size_append, ← z2, Int.toNat_natCast]) hz.2.2]

/-- READING BY PLACES UNDOES WRITING. -/
theorem posMsg_enc {m : Mg} (hm : mayB m = true) : posMsg (encB m) = m := by
  obtain ⟨f1, f2, f3, f4, f5, f6, f7, f8, f9⟩ := may_facts hm
  have head : ∀ t : ByteArray, encB m = headB m ++ t → atB (encB m) 0 = m.kind ∧ atB (encB m) 1 = m.frm ∧ atB (encB m) 2 = m.height ∧ atB (encB m) 3 = m.round := by
    intro t ht
    have e : encB m = oneB m.kind ++ (oneB m.frm ++ (oneB m.height ++ (oneB m.round ++ t))) := by
      rw [ht]; unfold headB; simp only [ByteArray.append_assoc]
    have s1 : encB m = (oneB m.kind) ++ (oneB m.frm ++ (oneB m.height ++ (oneB m.round ++ t))) := e
    have s2 : encB m = (oneB m.kind ++ oneB m.frm) ++ (oneB m.height ++ (oneB m.round ++ t)) := by rw [e]; simp only [ByteArray.append_assoc]
    have s3 : encB m = (oneB m.kind ++ oneB m.frm ++ oneB m.height) ++ (oneB m.round ++ t) := by rw [e]; simp only [ByteArray.append_assoc]
    refine ⟨?_, ?_, ?_, ?_⟩
    · rw [e]; exact at_one _ (by omega) (by omega)
    · rw [at_at (j := 0) s1 (by rw [oneB_size])]; exact at_one _ (by omega) (by omega)
    · rw [at_at (j := 0) s2 (by rw [ByteArray.size_append, oneB_size, oneB_size])]; exact at_one _ (by omega) (by omega)
    · rw [at_at (j := 0) s3 (by rw [ByteArray.size_append, ByteArray.size_append, oneB_size, oneB_size, oneB_size])]; exact at_one _ (by omega) (by omega)
  by_cases k1 : m.kind = 1
  · obtain ⟨_, a1, a2, a3, a4, a5⟩ := (may1_iff k1).1 hm
    have e : encB m = headB m ++ (m.chain ++ (oneB m.moves.length ++ movesE m.moves)) := by rw [enc1_eq k1, movesB_eq]; simp only [ByteArray.append_assoc]
    obtain ⟨h0, h1, h2, h3⟩ := head _ e
    have e2 : encB m = (headB m ++ m.chain) ++ (oneB m.moves.length ++ movesE m.moves) := by rw [e]; simp only [ByteArray.append_assoc]
    have e3 : encB m = (headB m ++ m.chain ++ oneB m.moves.length) ++ (movesE m.moves ++ ⟨#[]⟩) := by rw [e, app_nil]; simp only [ByteArray.append_assoc]
    have c1 : (encB m).extract 4 (4 + (3 * m.height).toNat) = m.chain := by
      rw [cut_at (j := 0) (l := (3 * m.height).toNat) e (by rw [headB_size]) (by rw [headB_size])]
      exact cut_one _ _ _ (by omega)
    have c2 : atB (encB m) (4 + (3 * m.height).toNat) = m.moves.length := by
      rw [at_at (j := 0) e2 (by rw [ByteArray.size_append, headB_size]; omega)]
      exact at_one _ (by omega) (by omega)
    have c3 := posMoves_enc (h := m.height) (r := m.round) (by omega) rfl m.moves (-1) (encB m) _ _ (5 + (3 * m.height).toNat) e3 (by rw [ByteArray.size_append, ByteArray.size_append, headB_size, oneB_size]; omega) a5
    unfold posMsg
    dsimp only
    rw [h0, h1, h2, h3, if_pos k1, c1, c2, Int.toNat_natCast, c3]
    exact mg_eta rfl rfl rfl rfl rfl a2.1 a2.2 rfl
  by_cases k2 : m.kind = 2 ∨ m.kind = 3
  · obtain ⟨_, a1, a2, a3, a4⟩ := (may23_iff k2).1 hm
    have e : encB m = headB m ++ m.chain := enc23_eq k2
    have e' : encB m = headB m ++ (m.chain ++ ⟨#[]⟩) := by rw [app_nil]; exact e
    obtain ⟨h0, h1, h2, h3⟩ := head _ e
    have c1 : (encB m).extract 4 (4 + (3 * m.height).toNat) = m.chain := by
      rw [cut_at (j := 0) (l := (3 * m.height).toNat) e' (by rw [headB_size]) (by rw [headB_size])]
      exact cut_one _ _ _ (by omega)
    unfold posMsg
    dsimp only
    rw [h0, h1, h2, h3, if_neg k1, if_pos k2, c1]
    exact mg_eta rfl rfl rfl rfl rfl a2 a3 (List.length_eq_zero_iff.1 a4)
  by_cases k4 : m.kind = 4
  · obtain ⟨_, a1, a2⟩ := (may4_iff k4).1 hm
    have e : encB m = headB m ++ (mvB m.prep m.chain m.by' ++ ⟨#[]⟩) := by rw [app_nil]; exact enc4_eq k4
    obtain ⟨h0, h1, h2, h3⟩ := head _ e
    have c1 := moveAt_enc (i := 4) (n := (3 * m.height).toNat) e (by rw [headB_size]) a1 (by omega) rfl
    unfold posMsg
    dsimp only
    rw [h0, h1, h2, h3, if_neg k1, if_neg k2, if_pos k4, c1]
    exact mg_eta rfl rfl rfl rfl rfl rfl rfl (List.length_eq_zero_iff.1 a2)
  by_cases k5 : m.kind = 5
  · obtain ⟨_, a1, a2, a3⟩ := (may5_iff k5).1 hm
    have e : encB m = headB m ++ (m.chain ++ (oneB m.by' ++ ⟨#[]⟩)) := by rw [app_nil, enc5_eq k5]; simp only [ByteArray.append_assoc]
    have e2 : encB m = (headB m ++ m.chain) ++ (oneB m.by' ++ ⟨#[]⟩) := by rw [e]; simp only [ByteArray.append_assoc]
    obtain ⟨h0, h1, h2, h3⟩ := head _ e
    have c1 : (encB m).extract 4 (4 + (3 * m.height).toNat) = m.chain := by
      rw [cut_at (j := 0) (l := (3 * m.height).toNat) e (by rw [headB_size]) (by rw [headB_size])]
      exact cut_one _ _ _ (by omega)
    have c2 : atB (encB m) (4 + (3 * m.height).toNat) = m.by' := by
      rw [at_at (j := 0) e2 (by rw [ByteArray.size_append, headB_size]; omega)]
      exact at_one _ (by omega) (by omega)
    unfold posMsg
    dsimp only
    rw [h0, h1, h2, h3, if_neg k1, if_neg k2, if_neg k4, if_pos k5, c1, c2]
    exact mg_eta rfl rfl rfl rfl rfl a2 rfl (List.length_eq_zero_iff.1 a3)
  · have k6 : m.kind = 6 := by omega
    obtain ⟨_, a1, a2, a3, a4⟩ := (may6_iff k6).1 hm
    have e : encB m = headB m ++ ⟨#[]⟩ := by rw [app_nil]; exact enc6_eq k6
    obtain ⟨h0, h1, h2, h3⟩ := head _ e
    unfold posMsg
    dsimp only
    rw [h0, h1, h2, h3, if_neg k1, if_neg k2, if_neg k4, if_neg k5]
    exact mg_eta rfl rfl rfl rfl (empty_of a1) a2.1 a2.2 (List.length_eq_zero_iff.1 a3)
/-- THE DOCUMENT TAKES WHAT THE PROGRAM TAKES, AND READS THE SAME. -/
theorem pos_iff {s : ByteArray} : (mayB (posMsg s) = true ∧ encB (posMsg s) = s) ↔ okMsg s = true := by
  constructor
  · rintro ⟨h1, h2⟩
    refine okMsg_spec.2 ⟨_, h1, h2, ?_⟩
    have e := readMsg_enc h1
    rw [h2] at e
    rw [e]
  · intro h
    obtain ⟨m, h1, rfl, _⟩ := okMsg_spec.1 h
    rw [posMsg_enc h1]
    exact ⟨h1, rfl⟩
theorem pos_same {s : ByteArray} (h : okMsg s = true) : posMsg s = (readMsg s false).1 := by
  obtain ⟨m, h1, rfl, h2⟩ := okMsg_spec.1 h
  rw [posMsg_enc h1, h2]
end Go.Proofs.Ytlkhmldceekdaaa

/- The law's mark. -/
namespace Go.Proofs.Ytlkhmldceekdaaa
open Go.RowKit Go.Shelf
set_option linter.unusedVariables false

def byteB (n : Nat) : UInt8 := UInt8.ofNat n
/-- a number as a text -/
def markB (n : Nat) : ByteArray := ⟨#[109, 97, 114, 107]⟩ ++ ⟨#[byteB n, byteB (n / 256), byteB (n / 65536)]⟩
set_option maxHeartbeats 1000000 in
set_option maxRecDepth 100000 in
theorem mark_any (n : Nat) (w : World) (hn : n ≤ 1000000000) :
    Calls Try.prog 21 #[.int .i64 (n : Int)] w fun e w' => e = .returned (.string (markB n)) ∧ Below w.heap.size w w' := by
  have b0 : (((byteB n).toNat : Nat) : Int) = (n : Int) % 256 := by unfold byteB; rw [UInt8.toNat_ofNat']; omega
  have b1 : (((byteB (n / 256)).toNat : Nat) : Int) = (n : Int) / 256 % 256 := by unfold byteB; rw [UInt8.toNat_ofNat']; omega
  have b2 : (((byteB (n / 65536)).toNat : Nat) : Int) = (n : Int) / 65536 % 256 := by unfold byteB; rw [UInt8.toNat_ofNat']; omega
  have hcv : (convert 80 9 (.slice (some ⟨w.heap.size, 0, none⟩) 3 3)).run Try.prog (w.alloc (.cells #[.int .u8 ((n : Int) % 256), .int .u8 ((n : Int) / 256 % 256), .int .u8 ((n : Int) / 65536 % 256)] 5)) = .ok (.string ⟨#[byteB n, byteB (n / 256), byteB (n / 65536)]⟩) (w.alloc (.cells #[.int .u8 ((n : Int) % 256), .int .u8 ((n : Int) / 256 % 256), .int .u8 ((n : Int) / 65536 % 256)] 5)) := by
    refine run_convert_bytes_back (P := Try.prog) _ 80 9 5 ⟨w.heap.size, 0, none⟩ 3 [byteB n, byteB (n / 256), byteB (n / 65536)] Try.underlying80 Try.underlying5 Try.underlying9 (fun j hj => ?_)
    have hx := World.alloc_heap_new w (.cells #[.int .u8 ((n : Int) % 256), .int .u8 ((n : Int) / 256 % 256), .int .u8 ((n : Int) / 65536 % 256)] 5 (0, 0))
    match j, hj with
    | 0, _ => rw [List.getElem_cons_zero, b0]; exact box_read (i := 0) hx rfl
    | 1, _ => rw [List.getElem_cons_succ, List.getElem_cons_zero, b1]; exact box_read (i := 1) hx rfl
    | 2, _ => rw [List.getElem_cons_succ, List.getElem_cons_succ, List.getElem_cons_zero, b2]; exact box_read (i := 2) hx rfl
  clear b0 b1 b2
  go_enter Try.func21, Try.ntmps21
  go_wp2
  go_ret
  exact ⟨rfl, (Below.refl _ w).alloc (Nat.le_refl _) _⟩
theorem markB_size (n : Nat) : (markB n).size = 7 := rfl
end Go.Proofs.Ytlkhmldceekdaaa

/- mootref.Decode, but for Propose. -/
namespace Go.Proofs.Ytlkhmldceekdaaa
open Go.RowKit Go.Shelf
set_option linter.unusedVariables false
theorem dec_flags {s t : ByteArray} {er : Int} {m : Mg} (hp : posMsg s = m) (he : encRes m = .tuple #[.string t, .int .i64 er]) : okMsg s = ((er == 0) && (t.toList == s.toList)) := by
  rw [Bool.eq_iff_iff, ← pos_iff, hp, Bool.and_eq_true, beq_iff_eq, Lib.bytes_beq_iff]
  unfold encRes at he
  split at he
  · rename_i h
    simp at he
    obtain ⟨rfl, rfl⟩ := he
    exact ⟨fun h => ⟨rfl, h.2⟩, fun h2 => ⟨h, h2.2⟩⟩
  · rename_i h
    simp at he
    obtain ⟨_, rfl⟩ := he
    exact ⟨fun h2 => absurd h2.1 h, fun h2 => absurd h2.1 (by decide)⟩
/-- what the document's Decode answers, where there are no Moves -/
def RefPost (s : ByteArray) (w : World) (e : Ending) (w' : World) : Prop :=
  ((okMsg s = true ∧ e = .returned (.tuple #[mgV (posMsg s) (.slice none 0 0), .int .i64 0]) ∧ (posMsg s).moves = []) ∨ (okMsg s = false ∧ e = .returned (.tuple #[noMsg, .int .i64 2]))) ∧ Below w.heap.size w w'
theorem refEnc_nil (m : Mg) (w : World) (hm : m.moves = []) (hc : m.chain.size ≤ maxLen) : Calls Try.prog 16 #[mgV m (.slice none 0 0)] w fun e w' => e = .returned (encRes m) ∧ Below w.heap.size w w' :=
  refEnc_any m _ w (by rw [hm]; exact ⟨⟨none, 0, rfl, fun h => absurd h (by simp)⟩, (fun x hx => absurd hx (by simp)), Nat.zero_le _⟩) hc
theorem moveAt_is (s : ByteArray) (z h p b q : Int) (c : ByteArray) (w : World) (hs : s.size ≤ maxLen) (h0 : 0 ≤ z) (h1 : z ≤ 10000000) (hh : 0 ≤ h ∧ h ≤ 255) (hm : moveAtB s z.toNat (3 * h).toNat = (p, c, b, q)) :
    Calls Try.prog 36 #[.string s, .int .i64 z, .int .i64 h] w fun e w' => e = .returned (.tuple #[.int .i64 p, .string c, .int .i64 b, .int .i64 q]) ∧ w' = w := by
  obtain ⟨i, rfl⟩ := Int.eq_ofNat_of_zero_le h0
  have := moveAt_nat s i h w hs (by omega) hh
  rw [Int.toNat_natCast] at hm
  rw [hm] at this
  exact this

set_option maxRecDepth 100000 in
set_option maxHeartbeats 4000000 in
theorem refDec0 (s : ByteArray) (k f h r : Int) (n : Nat)  (w : World) (hs : s.size ≤ maxLen) (h0 : atB s 0 = k) (h1 : atB s 1 = f) (h2 : atB s 2 = h) (h3 : atB s 3 = r) (hn : 3 * h = (n : Int)) (hh : 0 ≤ h ∧ h ≤ 255)  (hp : posMsg s = ⟨k, f, h, r, ⟨#[]⟩, -1, 0, []⟩) (hk : ¬ (1 ≤ k ∧ k ≤ 5)) :
    Calls Try.prog 19 #[.string s] w (RefPost s w) := by
  obtain ⟨t, er, he⟩ := encRes_two ⟨k, f, h, r, ⟨#[]⟩, -1, 0, []⟩
  have hfl := dec_flags hp he
  obtain ⟨b1, hb1⟩ : ∃ x, (er == 0) = x := ⟨_, rfl⟩
  obtain ⟨b2, hb2⟩ : ∃ x, (t.toList == s.toList) = x := ⟨_, rfl⟩
  rw [hb1, hb2] at hfl
  have HFL := hide hfl
  have HENC := hide (fun W => refEnc_nil ⟨k, f, h, r, ⟨#[]⟩, -1, 0, []⟩ W rfl (Nat.zero_le _))
  rw [he] at HENC
  have HP := hide hp
  have K0 : Hid (atB s (0 : Int).toNat = k) := h0
  have K1 : Hid (atB s (1 : Int).toNat = f) := h1
  have K2 : Hid (atB s (2 : Int).toNat = h) := h2
  have K3 : Hid (atB s (3 : Int).toNat = r) := h3
  have HA0 := box_alloc (o' := .cells #[.int .i64 k, .int .i64 f, .int .i64 h, .int .i64 r, .string ⟨#[]⟩, .int .i64 (-1), .int .i64 0, .slice none 0 0] 39) (World.alloc_heap_new w (.cells #[.int .i64 0, .int .i64 0, .int .i64 0, .int .i64 0, .string ⟨#[]⟩, .int .i64 0, .int .i64 0, .slice none 0 0] 39 (0, 0)))
  have HB0 : (((w.alloc (.cells #[.int .i64 0, .int .i64 0, .int .i64 0, .int .i64 0, .string ⟨#[]⟩, .int .i64 0, .int .i64 0, .slice none 0 0] 39)).alloc (.cells #[.int .i64 k, .int .i64 f, .int .i64 h, .int .i64 r, .string ⟨#[]⟩, .int .i64 (-1), .int .i64 0, .slice none 0 0] 39))).heap[w.heap.size + 1]? = some (.cells #[.int .i64 k, .int .i64 f, .int .i64 h, .int .i64 r, .string ⟨#[]⟩, .int .i64 (-1), .int .i64 0, .slice none 0 0] 39 (0, 0)) := by
    have := World.alloc_heap_new (w.alloc (.cells #[.int .i64 0, .int .i64 0, .int .i64 0, .int .i64 0, .string ⟨#[]⟩, .int .i64 0, .int .i64 0, .slice none 0 0] 39)) (.cells #[.int .i64 k, .int .i64 f, .int .i64 h, .int .i64 r, .string ⟨#[]⟩, .int .i64 (-1), .int .i64 0, .slice none 0 0] 39 (0, 0))
    rw [World.size_alloc] at this
    exact this
  have HA := hide HA0
  have HB := hide HB0
  have hbw : Below w.heap.size w ((w.alloc (.cells #[.int .i64 0, .int .i64 0, .int .i64 0, .int .i64 0, .string ⟨#[]⟩, .int .i64 0, .int .i64 0, .slice none 0 0] 39)).alloc (.cells #[.int .i64 k, .int .i64 f, .int .i64 h, .int .i64 r, .string ⟨#[]⟩, .int .i64 (-1), .int .i64 0, .slice none 0 0] 39)) := (((Below.refl _ w).alloc (Nat.le_refl _) _).alloc (by simp) _)
  have HBW := hide hbw
  have k1 : (k == 1) = false := beq_eq_false_iff_ne.2 (by omega)
  have k2 : (k == 2) = false := beq_eq_false_iff_ne.2 (by omega)
  have k3 : (k == 3) = false := beq_eq_false_iff_ne.2 (by omega)
  have k4 : (k == 4) = false := beq_eq_false_iff_ne.2 (by omega)
  have k5 : (k == 5) = false := beq_eq_false_iff_ne.2 (by omega)
  clear h0 h1 h2 h3 hp he hfl HA0 HB0 hbw hk
  go_enter Try.func19, Try.ntmps19
  go_wp2_with (first
    | (go_at_call 34; refine (at_is s _ _ hs (by omega) (by omega)).mono ?_; rintro e w' ⟨rfl, rfl⟩; first | rw [K0.out] | rw [K1.out] | rw [K2.out] | rw [K3.out])
    | (go_at_call 16; refine (HENC.out _).mono ?_; rintro e w3 ⟨rfl, hb3⟩; have a3 := (hb3.block _ (lt_of_block HA.out)).trans HA.out; have x3 := (hb3.block _ (lt_of_block HB.out)).trans HB.out; have t0 := box_read (i := 0) a3 rfl; have e0 := free_of (j := 0) a3; have c0 := box_read (i := 0) x3 rfl; have t1 := box_read (i := 1) a3 rfl; have e1 := free_of (j := 1) a3; have c1 := box_read (i := 1) x3 rfl; have t2 := box_read (i := 2) a3 rfl; have e2 := free_of (j := 2) a3; have c2 := box_read (i := 2) x3 rfl; have t3 := box_read (i := 3) a3 rfl; have e3 := free_of (j := 3) a3; have c3 := box_read (i := 3) x3 rfl; have t4 := box_read (i := 4) a3 rfl; have e4 := free_of (j := 4) a3; have c4 := box_read (i := 4) x3 rfl; have t5 := box_read (i := 5) a3 rfl; have e5 := free_of (j := 5) a3; have c5 := box_read (i := 5) x3 rfl; have t6 := box_read (i := 6) a3 rfl; have e6 := free_of (j := 6) a3; have c6 := box_read (i := 6) x3 rfl; have t7 := box_read (i := 7) a3 rfl; have e7 := free_of (j := 7) a3; have c7 := box_read (i := 7) x3 rfl))
  all_goals have B3 := HBW.out.trans (hb3.mono HBW.out.size)
  · refine bodyPost_ret (v := .tuple #[noMsg, .int .i64 2]) (by simp [results, Try.results19, go_sem, t0, t1, t2, t3, t4, t5, t6, t7]) rfl ⟨.inr ⟨?_, rfl⟩, ((((((((B3.setCell (p := ⟨w.heap.size, 0, none⟩) (Nat.le_refl _) _).setCell (p := ⟨w.heap.size, 1, none⟩) (Nat.le_refl _) _).setCell (p := ⟨w.heap.size, 2, none⟩) (Nat.le_refl _) _).setCell (p := ⟨w.heap.size, 3, none⟩) (Nat.le_refl _) _).setCell (p := ⟨w.heap.size, 4, none⟩) (Nat.le_refl _) _).setCell (p := ⟨w.heap.size, 5, none⟩) (Nat.le_refl _) _).setCell (p := ⟨w.heap.size, 6, none⟩) (Nat.le_refl _) _).setCell (p := ⟨w.heap.size, 7, none⟩) (Nat.le_refl _) _)⟩
    have q : (!b2) = true := by assumption
    have q' : b2 = false := by simpa using q
    rw [HFL.out, q', Bool.and_false]
  · refine bodyPost_ret (v := .tuple #[mgV ⟨k, f, h, r, ⟨#[]⟩, -1, 0, []⟩ (.slice none 0 0), .int .i64 0]) (by simp [results, Try.results19, go_sem, t0, t1, t2, t3, t4, t5, t6, t7]) rfl ⟨.inl ⟨?_, ?_, ?_⟩, ((((((((B3.setCell (p := ⟨w.heap.size, 0, none⟩) (Nat.le_refl _) _).setCell (p := ⟨w.heap.size, 1, none⟩) (Nat.le_refl _) _).setCell (p := ⟨w.heap.size, 2, none⟩) (Nat.le_refl _) _).setCell (p := ⟨w.heap.size, 3, none⟩) (Nat.le_refl _) _).setCell (p := ⟨w.heap.size, 4, none⟩) (Nat.le_refl _) _).setCell (p := ⟨w.heap.size, 5, none⟩) (Nat.le_refl _) _).setCell (p := ⟨w.heap.size, 6, none⟩) (Nat.le_refl _) _).setCell (p := ⟨w.heap.size, 7, none⟩) (Nat.le_refl _) _)⟩
    · have q : (!b2) = false := by assumption
      have q' : b2 = true := by simpa using q
      have q1 : er = 0 := by assumption
      rw [HFL.out, ← hb1, q', q1]; rfl
    · rw [HP.out]
    · rw [HP.out]
  · refine bodyPost_ret (v := .tuple #[noMsg, .int .i64 2]) (by simp [results, Try.results19, go_sem, t0, t1, t2, t3, t4, t5, t6, t7]) rfl ⟨.inr ⟨?_, rfl⟩, ((((((((B3.setCell (p := ⟨w.heap.size, 0, none⟩) (Nat.le_refl _) _).setCell (p := ⟨w.heap.size, 1, none⟩) (Nat.le_refl _) _).setCell (p := ⟨w.heap.size, 2, none⟩) (Nat.le_refl _) _).setCell (p := ⟨w.heap.size, 3, none⟩) (Nat.le_refl _) _).setCell (p := ⟨w.heap.size, 4, none⟩) (Nat.le_refl _) _).setCell (p := ⟨w.heap.size, 5, none⟩) (Nat.le_refl _) _).setCell (p := ⟨w.heap.size, 6, none⟩) (Nat.le_refl _) _).setCell (p := ⟨w.heap.size, 7, none⟩) (Nat.le_refl _) _)⟩
    have q : ¬ er = 0 := by assumption
    rw [HFL.out, ← hb1, beq_eq_false_iff_ne.2 q, Bool.false_and]
end Go.Proofs.Ytlkhmldceekdaaa

/- The law's book where it holds lists of Moves alone: what lies in it; stays. -/
namespace Go.Proofs.Ytlkhmldceekdaaa
open Go.RowKit Go.Shelf
set_option linter.unusedVariables false

/-- a Move that is a mark -/
def mkMv (c : ByteArray) : Mv := ⟨0, 0, c, 0⟩
/-- a list of n marks, its array below block 'top' -/
def MarkedM (w : World) (top : Nat) (v : Value) (c : ByteArray) : Prop :=
  ∃ n, w.ownsRow 0 43 4 v n (flatV (List.replicate n (mkMv c))) ∧ n ≤ 3000000 ∧ ∀ g, v.ownBlock = some g → g < top
theorem rep_split (x : Mv) {n j : Nat} (h : j < n) : List.replicate n x = List.replicate j x ++ x :: List.replicate (n - (j + 1)) x := by
  rw [← List.replicate_succ, List.replicate_append_replicate, show j + (n - (j + 1) + 1) = n by omega]
theorem MarkedM.slice {w : World} {top : Nat} {v : Value} {c : ByteArray} (h : MarkedM w top v c) : ∃ ao n cap, v = .slice ao n cap ∧ n ≤ 3000000 ∧ (0 < n → ∃ g, ao = some ⟨g, 0, none⟩ ∧ ∀ j, j < n →
    w.cell? ⟨g, j * 4, none⟩ = some (.int .i64 0) ∧ w.cell? ⟨g, j * 4 + 1, none⟩ = some (.int .i64 0) ∧ w.cell? ⟨g, j * 4 + 2, none⟩ = some (.string c) ∧ w.cell? ⟨g, j * 4 + 3, none⟩ = some (.int .i64 0)) := by
  obtain ⟨n, hown, hn, _⟩ := h
  have h2 := hown
  rcases hown.2 with ⟨rfl, h0⟩ | ⟨g, cap, cur, rfl, _⟩
  · exact ⟨none, 0, 0, rfl, by omega, fun h => by omega⟩
  · refine ⟨_, n, cap, rfl, hn, fun _ => ⟨g, rfl, fun j hj => ?_⟩⟩
    have q := flatV_get (List.replicate j (mkMv c)) (List.replicate (n - (j + 1)) (mkMv c)) (mkMv c) j (by simp)
    rw [← rep_split (mkMv c) hj] at q
    exact ⟨(h2.cellAt _ (by omega)).trans q.1, (h2.cellAt _ (by omega)).trans q.2.1, (h2.cellAt _ (by omega)).trans q.2.2.1, (h2.cellAt _ (by omega)).trans q.2.2.2⟩
theorem MarkedM.mono {w : World} {top top' : Nat} {v : Value} {x : ByteArray} (h : MarkedM w top v x) (ht : top ≤ top') : MarkedM w top' v x := by
  obtain ⟨n, h1, h2, h3⟩ := h
  exact ⟨n, h1, h2, fun g hg => Nat.lt_of_lt_of_le (h3 g hg) ht⟩
theorem MarkedM.kept {w w' : World} {top : Nat} {v : Value} {x : ByteArray} {row : Option Nat} (h : MarkedM w top v x) (hg : w.grownBy w' row) (hne : v.ownBlock = none ∨ v.ownBlock ≠ row) : MarkedM w' top v x := by
  obtain ⟨n, h1, h2, h3⟩ := h
  exact ⟨n, h1.kept hg hne, h2, h3⟩
/-- the mark of a place -/
def markM (i : Nat) : ByteArray := markB (i / 4 * 4)

/-- THE BOOK (its lists of Moves; of the others there are none): block K; its own row from 'base' on; the lists' arrays below 'top'. -/
structure BookM (w : World) (K base top : Nat) (L : List Value) : Prop where
  book : ∃ kv, w.heap[K]? = some (.cells #[.slice none 0 0, kv, .slice none 0 0] 28 (0, 0)) ∧ w.ownsRow base 37 1 kv L.length L
  lists : ∀ i (h : i < L.length), MarkedM w top L[i] (markM i)
  top_le : top ≤ w.heap.size
theorem BookM.below {w w' : World} {K base top : Nat} {L : List Value} (h : BookM w K base top L) (hb : Below w.heap.size w w') : BookM w' K base top L := by
  obtain ⟨⟨kv, h1, h2⟩, h3, h4⟩ := h
  refine ⟨⟨kv, (hb.block K (lt_of_block h1)).trans h1, ownsRow_below h2 hb⟩, fun i hi => (h3 i hi).kept (grownBy_below hb) ?_, Nat.le_trans h4 hb.size⟩
  cases hv : (L[i]).ownBlock with
  | none => exact .inl rfl
  | some g => exact .inr (by simp)
theorem BookM.top_mono {w : World} {K base top top' : Nat} {L : List Value} (h : BookM w K base top L) (ht : top ≤ top') (hw : top' ≤ w.heap.size) : BookM w K base top' L :=
  ⟨h.book, fun i hi => (h.lists i hi).mono ht, hw⟩
/-- the book's cells, laid open -/
theorem BookM.open' {w : World} {K base top : Nat} {L : List Value} (h : BookM w K base top L) : ∃ ao cap, w.cell? ⟨K, 0, none⟩ = some (.slice none 0 0) ∧ w.cell? ⟨K, 1, none⟩ = some (.slice ao L.length cap) ∧ w.cell? ⟨K, 2, none⟩ = some (.slice none 0 0) ∧ (0 < L.length → ∃ R, ao = some ⟨R, 0, none⟩ ∧ ∀ i (hi : i < L.length), w.cell? ⟨R, i, none⟩ = some L[i]) := by
  obtain ⟨⟨kv, hb, hrow⟩, _, _⟩ := h
  obtain ⟨c0, c1, c2⟩ := cells_of_three hb
  obtain ⟨ao, cap, rfl, hc⟩ := row_slice hrow
  exact ⟨ao, cap, c0, c1, c2, hc⟩
theorem mark_is (c : ByteArray) (z : Int) (n : Nat) (w : World) (hz : z = (n : Int)) (hn : n ≤ 1000000000) (hc : markB n = c) :
    Calls Try.prog 21 #[.int .i64 z] w fun e w' => e = .returned (.string c) ∧ Below w.heap.size w w' := by
  subst hz; rw [← hc]; exact mark_any n w hn

set_option maxRecDepth 100000 in
set_option maxHeartbeats 2000000 in
theorem staysM_any (K base top : Nat) (L : List Value) (w : World) (hk : BookM w K base top L) (hL : L.length ≤ 100000000) :
    Calls Try.prog 8 #[.pointer (some ⟨K, 0, none⟩)] w fun e w' => e = .returned (.bool true) ∧ Below w.heap.size w w' := by
  have HK := hide hk
  obtain ⟨ao0, cap0, c0, c1, c2, _⟩ := hk.open'
  clear hk
  go_enter Try.func8, Try.ntmps8
  go_wp2
  refine wp_loop_rounds 1 ?_
  rw [rounds_succ]
  go_wp2
  clear c0 c1 c2
  go_loopw [5] (fun i wr => ∃ k : Nat, k ≤ L.length ∧ i = .int .i64 (k : Int) ∧ Below w.heap.size w wr) (fun i _ => L.length - (intOf i).toNat)
  case atStart => exact ⟨0, by omega, rfl, Below.refl _ _⟩
  case round =>
    obtain ⟨k, hk, rfl, hB⟩ := hrel
    obtain ⟨ao, cap, c0, c1, c2, _⟩ := (HK.out.below hB).open'
    by_cases hlt : k < L.length
    · obtain ⟨c, hc⟩ : ∃ c, markM k = c := ⟨_, rfl⟩
      have HC := hide hc
      clear hc
      have hkB : decide ((k : Int) < (L.length : Int)) = true := by simp; omega
      go_wp2_with (go_at_call 21; refine (mark_is c _ (k / 4 * 4) _ (by omega) (by omega) HC.out).mono ?_; rintro e w2 ⟨rfl, hb2⟩)
      clear c0 c1 c2
      have hbW : Below w.heap.size w (w2.alloc (.cells #[.int .i64 0, .int .i64 0, .string c, .int .i64 0] 43)) := (hB.trans (hb2.mono hB.size)).alloc (Nat.le_trans hB.size hb2.size) _
      have HX := World.alloc_heap_new w2 (.cells #[.int .i64 0, .int .i64 0, .string c, .int .i64 0] 43 (0, 0))
      have x0 := box_read (i := 0) HX rfl
      have x1 := box_read (i := 1) HX rfl
      have x2 := box_read (i := 2) HX rfl
      have x3 := box_read (i := 3) HX rfl
      obtain ⟨X, hX⟩ : ∃ X, w2.heap.size = X := ⟨_, rfl⟩
      rw [hX] at x0 x1 x2 x3 ⊢
      obtain ⟨W, hW⟩ : ∃ W, w2.alloc (.cells #[.int .i64 0, .int .i64 0, .string c, .int .i64 0] 43) = W := ⟨_, rfl⟩
      rw [hW] at x0 x1 x2 x3 hbW ⊢
      clear HX
      have HKW := HK.out.below hbW
      obtain ⟨ao, cap, c0, c1, c2, hcells⟩ := HKW.open'
      obtain ⟨R, rfl, hcell⟩ := hcells (by omega)
      have ck := hcell k hlt
      have hl := HKW.lists k hlt
      rw [HC.out] at hl
      obtain ⟨ao2, n, cap2, hv, hn, hel⟩ := hl.slice
      rw [hv] at ck
      have HEL := hide hel
      have HV := hide hv
      have HHX := hide hX
      have HHW := hide hW
      clear hcell hel hv hl hcells HKW hX hW
      go_loopw [7] (fun i wr => ∃ (j m : Nat), j ≤ n ∧ i = .int .i64 (j : Int) ∧ wr = W.drewN m) (fun i _ => n - (intOf i).toNat)
      case atStart => exact ⟨0, 0, by omega, rfl, rfl⟩
      case round =>
        obtain ⟨j, m, hj, rfl, rfl⟩ := hrel
        by_cases hjl : j < n
        · obtain ⟨g, rfl, hcj⟩ := HEL.out (by omega)
          obtain ⟨y0, y1, y2, y3⟩ := hcj j hjl
          clear hcj
          have i0 : (0 : Int) ≤ (j : Int) := by omega
          have i1 : (j : Int) < (n : Int) := by omega
          have i2 : (0 : Int) ≤ (k : Int) := by omega
          have i3 : (k : Int) < (L.length : Int) := by omega
          go_wp2
          go_quiet (fail)
          go_wp2
          go_roundw
          case rel => exact ⟨j + 1, m + nq, by omega, by go_num, rfl⟩
          case measure => simp [intOf]; omega
        · go_wp2
          go_roundw
          case rel => exact ⟨k + 1, by omega, by go_num, hbW.trans (below_drewN' _ _ |>.mono hbW.size)⟩
          case measure => simp [intOf]; omega
    · go_wp2
      refine wp_loop_rounds 1 ?_
      rw [rounds_succ]
      go_wp2
      go_ret
      exact ⟨rfl, hB⟩
end Go.Proofs.Ytlkhmldceekdaaa
