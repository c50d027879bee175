import Derived.Test.YtpecfjejfkcolaaPart27
/- mootref.Decode at a kind. -/
namespace Go.Proofs.Ytpecfjejfkcolaa
open Go.RowKit Go.Shelf
set_option linter.unusedVariables false

set_option maxRecDepth 100000 in
set_option maxHeartbeats 4000000 in
theorem refDec2 (s : ByteArray) (k f h r : Int) (n : Nat) (c : ByteArray) (w : World) (hs : s.size ≤ maxLen) (h0 : atB s 0 = k) (h1 : atB s 1 = f) (h2 : atB s 2 = h) (h3 : atB s 3 = r) (hn : 3 * h = (n : Int)) (hh : 0 ≤ h ∧ h ≤ 255) (hc : s.extract 4 (4 + n) = c) (hcs : c.size ≤ 1000) (hp : posMsg s = ⟨k, f, h, r, c, -1, 0, []⟩) (hk : k = 2) :
    Calls Try.prog 19 #[.string s] w (RefPost s w) := by
  obtain ⟨t, er, he⟩ := encRes_two ⟨k, f, h, r, c, -1, 0, []⟩
  have hfl := dec_flags hp he
  obtain ⟨b1, hb1⟩ : ∃ x, (er == 0) = x := ⟨_, rfl⟩
  obtain ⟨b2, hb2⟩ : ∃ x, (t.toList == s.toList) = x := ⟨_, rfl⟩
  rw [hb1, hb2] at hfl
  have HFL := hide hfl
  have HENC := hide (fun W => refEnc_nil ⟨k, f, h, r, c, -1, 0, []⟩ W rfl (Nat.le_trans hcs (by unfold maxLen; decide)))
  rw [he] at HENC
  have HP := hide hp
  have K0 : Hid (atB s (0 : Int).toNat = k) := h0
  have K1 : Hid (atB s (1 : Int).toNat = f) := h1
  have K2 : Hid (atB s (2 : Int).toNat = h) := h2
  have K3 : Hid (atB s (3 : Int).toNat = r) := h3
  have HA0 := box_alloc (o' := .cells #[.int .i64 k, .int .i64 f, .int .i64 h, .int .i64 r, .string c, .int .i64 (-1), .int .i64 0, .slice none 0 0] 39) (World.alloc_heap_new w (.cells #[.int .i64 0, .int .i64 0, .int .i64 0, .int .i64 0, .string ⟨#[]⟩, .int .i64 0, .int .i64 0, .slice none 0 0] 39 (0, 0)))
  have HB0 : (((w.alloc (.cells #[.int .i64 0, .int .i64 0, .int .i64 0, .int .i64 0, .string ⟨#[]⟩, .int .i64 0, .int .i64 0, .slice none 0 0] 39)).alloc (.cells #[.int .i64 k, .int .i64 f, .int .i64 h, .int .i64 r, .string c, .int .i64 (-1), .int .i64 0, .slice none 0 0] 39))).heap[w.heap.size + 1]? = some (.cells #[.int .i64 k, .int .i64 f, .int .i64 h, .int .i64 r, .string c, .int .i64 (-1), .int .i64 0, .slice none 0 0] 39 (0, 0)) := by
    have := World.alloc_heap_new (w.alloc (.cells #[.int .i64 0, .int .i64 0, .int .i64 0, .int .i64 0, .string ⟨#[]⟩, .int .i64 0, .int .i64 0, .slice none 0 0] 39)) (.cells #[.int .i64 k, .int .i64 f, .int .i64 h, .int .i64 r, .string c, .int .i64 (-1), .int .i64 0, .slice none 0 0] 39 (0, 0))
    rw [World.size_alloc] at this
    exact this
  have HA := hide HA0
  have HB := hide HB0
  have hbw : Below w.heap.size w ((w.alloc (.cells #[.int .i64 0, .int .i64 0, .int .i64 0, .int .i64 0, .string ⟨#[]⟩, .int .i64 0, .int .i64 0, .slice none 0 0] 39)).alloc (.cells #[.int .i64 k, .int .i64 f, .int .i64 h, .int .i64 r, .string c, .int .i64 (-1), .int .i64 0, .slice none 0 0] 39)) := (((Below.refl _ w).alloc (Nat.le_refl _) _).alloc (by simp) _)
  have HBW := hide hbw
  have HC : Hid (s.extract (4 : Int).toNat ((4 : Int).toNat + (n : Int).toNat) = c) := by rw [Int.toNat_natCast]; exact hc
  clear hc
  have k1 : (k == 1) = false := beq_eq_false_iff_ne.2 (by omega)
  have k2 : (k == 2) = true := beq_iff_eq.2 hk
  clear h0 h1 h2 h3 hp he hfl HA0 HB0 hbw hk
  go_enter Try.func19, Try.ntmps19
  go_wp2_with (first
    | (go_at_call 34; refine (at_is s _ _ hs (by omega) (by omega)).mono ?_; rintro e w' ⟨rfl, rfl⟩; first | rw [K0.out] | rw [K1.out] | rw [K2.out] | rw [K3.out])
    | (go_at_call 16; refine (HENC.out _).mono ?_; rintro e w3 ⟨rfl, hb3⟩; have a3 := (hb3.block _ (lt_of_block HA.out)).trans HA.out; have x3 := (hb3.block _ (lt_of_block HB.out)).trans HB.out; have t0 := box_read (i := 0) a3 rfl; have e0 := free_of (j := 0) a3; have c0 := box_read (i := 0) x3 rfl; have t1 := box_read (i := 1) a3 rfl; have e1 := free_of (j := 1) a3; have c1 := box_read (i := 1) x3 rfl; have t2 := box_read (i := 2) a3 rfl; have e2 := free_of (j := 2) a3; have c2 := box_read (i := 2) x3 rfl; have t3 := box_read (i := 3) a3 rfl; have e3 := free_of (j := 3) a3; have c3 := box_read (i := 3) x3 rfl; have t4 := box_read (i := 4) a3 rfl; have e4 := free_of (j := 4) a3; have c4 := box_read (i := 4) x3 rfl; have t5 := box_read (i := 5) a3 rfl; have e5 := free_of (j := 5) a3; have c5 := box_read (i := 5) x3 rfl; have t6 := box_read (i := 6) a3 rfl; have e6 := free_of (j := 6) a3; have c6 := box_read (i := 6) x3 rfl; have t7 := box_read (i := 7) a3 rfl; have e7 := free_of (j := 7) a3; have c7 := box_read (i := 7) x3 rfl)
    | (go_at_call 35; refine (cut_is s _ _ _ hs (by omega) (by omega) (by omega) (by omega)).mono ?_; rintro e w' ⟨rfl, rfl⟩; rw [HC.out]))
  all_goals have B3 := HBW.out.trans (hb3.mono HBW.out.size)
  · refine bodyPost_ret (v := .tuple #[noMsg, .int .i64 2]) (by simp [results, Try.results19, go_sem, t0, t1, t2, t3, t4, t5, t6, t7]) rfl ⟨.inr ⟨?_, rfl⟩, ((((((((B3.setCell (p := ⟨w.heap.size, 0, none⟩) (Nat.le_refl _) _).setCell (p := ⟨w.heap.size, 1, none⟩) (Nat.le_refl _) _).setCell (p := ⟨w.heap.size, 2, none⟩) (Nat.le_refl _) _).setCell (p := ⟨w.heap.size, 3, none⟩) (Nat.le_refl _) _).setCell (p := ⟨w.heap.size, 4, none⟩) (Nat.le_refl _) _).setCell (p := ⟨w.heap.size, 5, none⟩) (Nat.le_refl _) _).setCell (p := ⟨w.heap.size, 6, none⟩) (Nat.le_refl _) _).setCell (p := ⟨w.heap.size, 7, none⟩) (Nat.le_refl _) _)⟩
    have q : (!b2) = true := by assumption
    have q' : b2 = false := by simpa using q
    rw [HFL.out, q', Bool.and_false]
  · refine bodyPost_ret (v := .tuple #[mgV ⟨k, f, h, r, c, -1, 0, []⟩ (.slice none 0 0), .int .i64 0]) (by simp [results, Try.results19, go_sem, t0, t1, t2, t3, t4, t5, t6, t7]) rfl ⟨.inl ⟨?_, ?_, ?_⟩, ((((((((B3.setCell (p := ⟨w.heap.size, 0, none⟩) (Nat.le_refl _) _).setCell (p := ⟨w.heap.size, 1, none⟩) (Nat.le_refl _) _).setCell (p := ⟨w.heap.size, 2, none⟩) (Nat.le_refl _) _).setCell (p := ⟨w.heap.size, 3, none⟩) (Nat.le_refl _) _).setCell (p := ⟨w.heap.size, 4, none⟩) (Nat.le_refl _) _).setCell (p := ⟨w.heap.size, 5, none⟩) (Nat.le_refl _) _).setCell (p := ⟨w.heap.size, 6, none⟩) (Nat.le_refl _) _).setCell (p := ⟨w.heap.size, 7, none⟩) (Nat.le_refl _) _)⟩
    · have q : (!b2) = false := by assumption
      have q' : b2 = true := by simpa using q
      have q1 : er = 0 := by assumption
      rw [HFL.out, ← hb1, q', q1]; rfl
    · rw [HP.out]
    · rw [HP.out]
  · refine bodyPost_ret (v := .tuple #[noMsg, .int .i64 2]) (by simp [results, Try.results19, go_sem, t0, t1, t2, t3, t4, t5, t6, t7]) rfl ⟨.inr ⟨?_, rfl⟩, ((((((((B3.setCell (p := ⟨w.heap.size, 0, none⟩) (Nat.le_refl _) _).setCell (p := ⟨w.heap.size, 1, none⟩) (Nat.le_refl _) _).setCell (p := ⟨w.heap.size, 2, none⟩) (Nat.le_refl _) _).setCell (p := ⟨w.heap.size, 3, none⟩) (Nat.le_refl _) _).setCell (p := ⟨w.heap.size, 4, none⟩) (Nat.le_refl _) _).setCell (p := ⟨w.heap.size, 5, none⟩) (Nat.le_refl _) _).setCell (p := ⟨w.heap.size, 6, none⟩) (Nat.le_refl _) _).setCell (p := ⟨w.heap.size, 7, none⟩) (Nat.le_refl _) _)⟩
    have q : ¬ er = 0 := by assumption
    rw [HFL.out, ← hb1, beq_eq_false_iff_ne.2 q, Bool.false_and]
end Go.Proofs.Ytpecfjejfkcolaa

/- mootref.Decode at a kind. -/
namespace Go.Proofs.Ytpecfjejfkcolaa
open Go.RowKit Go.Shelf
set_option linter.unusedVariables false

set_option maxRecDepth 100000 in
set_option maxHeartbeats 4000000 in
theorem refDec3 (s : ByteArray) (k f h r : Int) (n : Nat) (c : ByteArray) (w : World) (hs : s.size ≤ maxLen) (h0 : atB s 0 = k) (h1 : atB s 1 = f) (h2 : atB s 2 = h) (h3 : atB s 3 = r) (hn : 3 * h = (n : Int)) (hh : 0 ≤ h ∧ h ≤ 255) (hc : s.extract 4 (4 + n) = c) (hcs : c.size ≤ 1000) (hp : posMsg s = ⟨k, f, h, r, c, -1, 0, []⟩) (hk : k = 3) :
    Calls Try.prog 19 #[.string s] w (RefPost s w) := by
  obtain ⟨t, er, he⟩ := encRes_two ⟨k, f, h, r, c, -1, 0, []⟩
  have hfl := dec_flags hp he
  obtain ⟨b1, hb1⟩ : ∃ x, (er == 0) = x := ⟨_, rfl⟩
  obtain ⟨b2, hb2⟩ : ∃ x, (t.toList == s.toList) = x := ⟨_, rfl⟩
  rw [hb1, hb2] at hfl
  have HFL := hide hfl
  have HENC := hide (fun W => refEnc_nil ⟨k, f, h, r, c, -1, 0, []⟩ W rfl (Nat.le_trans hcs (by unfold maxLen; decide)))
  rw [he] at HENC
  have HP := hide hp
  have K0 : Hid (atB s (0 : Int).toNat = k) := h0
  have K1 : Hid (atB s (1 : Int).toNat = f) := h1
  have K2 : Hid (atB s (2 : Int).toNat = h) := h2
  have K3 : Hid (atB s (3 : Int).toNat = r) := h3
  have HA0 := box_alloc (o' := .cells #[.int .i64 k, .int .i64 f, .int .i64 h, .int .i64 r, .string c, .int .i64 (-1), .int .i64 0, .slice none 0 0] 39) (World.alloc_heap_new w (.cells #[.int .i64 0, .int .i64 0, .int .i64 0, .int .i64 0, .string ⟨#[]⟩, .int .i64 0, .int .i64 0, .slice none 0 0] 39 (0, 0)))
  have HB0 : (((w.alloc (.cells #[.int .i64 0, .int .i64 0, .int .i64 0, .int .i64 0, .string ⟨#[]⟩, .int .i64 0, .int .i64 0, .slice none 0 0] 39)).alloc (.cells #[.int .i64 k, .int .i64 f, .int .i64 h, .int .i64 r, .string c, .int .i64 (-1), .int .i64 0, .slice none 0 0] 39))).heap[w.heap.size + 1]? = some (.cells #[.int .i64 k, .int .i64 f, .int .i64 h, .int .i64 r, .string c, .int .i64 (-1), .int .i64 0, .slice none 0 0] 39 (0, 0)) := by
    have := World.alloc_heap_new (w.alloc (.cells #[.int .i64 0, .int .i64 0, .int .i64 0, .int .i64 0, .string ⟨#[]⟩, .int .i64 0, .int .i64 0, .slice none 0 0] 39)) (.cells #[.int .i64 k, .int .i64 f, .int .i64 h, .int .i64 r, .string c, .int .i64 (-1), .int .i64 0, .slice none 0 0] 39 (0, 0))
    rw [World.size_alloc] at this
    exact this
  have HA := hide HA0
  have HB := hide HB0
  have hbw : Below w.heap.size w ((w.alloc (.cells #[.int .i64 0, .int .i64 0, .int .i64 0, .int .i64 0, .string ⟨#[]⟩, .int .i64 0, .int .i64 0, .slice none 0 0] 39)).alloc (.cells #[.int .i64 k, .int .i64 f, .int .i64 h, .int .i64 r, .string c, .int .i64 (-1), .int .i64 0, .slice none 0 0] 39)) := (((Below.refl _ w).alloc (Nat.le_refl _) _).alloc (by simp) _)
  have HBW := hide hbw
  have HC : Hid (s.extract (4 : Int).toNat ((4 : Int).toNat + (n : Int).toNat) = c) := by rw [Int.toNat_natCast]; exact hc
  clear hc
  have k1 : (k == 1) = false := beq_eq_false_iff_ne.2 (by omega)
  have k2 : (k == 2) = false := beq_eq_false_iff_ne.2 (by omega)
  have k3 : (k == 3) = true := beq_iff_eq.2 hk
  clear h0 h1 h2 h3 hp he hfl HA0 HB0 hbw hk
  go_enter Try.func19, Try.ntmps19
  go_wp2_with (first
    | (go_at_call 34; refine (at_is s _ _ hs (by omega) (by omega)).mono ?_; rintro e w' ⟨rfl, rfl⟩; first | rw [K0.out] | rw [K1.out] | rw [K2.out] | rw [K3.out])
    | (go_at_call 16; refine (HENC.out _).mono ?_; rintro e w3 ⟨rfl, hb3⟩; have a3 := (hb3.block _ (lt_of_block HA.out)).trans HA.out; have x3 := (hb3.block _ (lt_of_block HB.out)).trans HB.out; have t0 := box_read (i := 0) a3 rfl; have e0 := free_of (j := 0) a3; have c0 := box_read (i := 0) x3 rfl; have t1 := box_read (i := 1) a3 rfl; have e1 := free_of (j := 1) a3; have c1 := box_read (i := 1) x3 rfl; have t2 := box_read (i := 2) a3 rfl; have e2 := free_of (j := 2) a3; have c2 := box_read (i := 2) x3 rfl; have t3 := box_read (i := 3) a3 rfl; have e3 := free_of (j := 3) a3; have c3 := box_read (i := 3) x3 rfl; have t4 := box_read (i := 4) a3 rfl; have e4 := free_of (j := 4) a3; have c4 := box_read (i := 4) x3 rfl; have t5 := box_read (i := 5) a3 rfl; have e5 := free_of (j := 5) a3; have c5 := box_read (i := 5) x3 rfl; have t6 := box_read (i := 6) a3 rfl; have e6 := free_of (j := 6) a3; have c6 := box_read (i := 6) x3 rfl; have t7 := box_read (i := 7) a3 rfl; have e7 := free_of (j := 7) a3; have c7 := box_read (i := 7) x3 rfl)
    | (go_at_call 35; refine (cut_is s _ _ _ hs (by omega) (by omega) (by omega) (by omega)).mono ?_; rintro e w' ⟨rfl, rfl⟩; rw [HC.out]))
  all_goals have B3 := HBW.out.trans (hb3.mono HBW.out.size)
  · refine bodyPost_ret (v := .tuple #[noMsg, .int .i64 2]) (by simp [results, Try.results19, go_sem, t0, t1, t2, t3, t4, t5, t6, t7]) rfl ⟨.inr ⟨?_, rfl⟩, ((((((((B3.setCell (p := ⟨w.heap.size, 0, none⟩) (Nat.le_refl _) _).setCell (p := ⟨w.heap.size, 1, none⟩) (Nat.le_refl _) _).setCell (p := ⟨w.heap.size, 2, none⟩) (Nat.le_refl _) _).setCell (p := ⟨w.heap.size, 3, none⟩) (Nat.le_refl _) _).setCell (p := ⟨w.heap.size, 4, none⟩) (Nat.le_refl _) _).setCell (p := ⟨w.heap.size, 5, none⟩) (Nat.le_refl _) _).setCell (p := ⟨w.heap.size, 6, none⟩) (Nat.le_refl _) _).setCell (p := ⟨w.heap.size, 7, none⟩) (Nat.le_refl _) _)⟩
    have q : (!b2) = true := by assumption
    have q' : b2 = false := by simpa using q
    rw [HFL.out, q', Bool.and_false]
  · refine bodyPost_ret (v := .tuple #[mgV ⟨k, f, h, r, c, -1, 0, []⟩ (.slice none 0 0), .int .i64 0]) (by simp [results, Try.results19, go_sem, t0, t1, t2, t3, t4, t5, t6, t7]) rfl ⟨.inl ⟨?_, ?_, ?_⟩, ((((((((B3.setCell (p := ⟨w.heap.size, 0, none⟩) (Nat.le_refl _) _).setCell (p := ⟨w.heap.size, 1, none⟩) (Nat.le_refl _) _).setCell (p := ⟨w.heap.size, 2, none⟩) (Nat.le_refl _) _).setCell (p := ⟨w.heap.size, 3, none⟩) (Nat.le_refl _) _).setCell (p := ⟨w.heap.size, 4, none⟩) (Nat.le_refl _) _).setCell (p := ⟨w.heap.size, 5, none⟩) (Nat.le_refl _) _).setCell (p := ⟨w.heap.size, 6, none⟩) (Nat.le_refl _) _).setCell (p := ⟨w.heap.size, 7, none⟩) (Nat.le_refl _) _)⟩
    · have q : (!b2) = false := by assumption
      have q' : b2 = true := by simpa using q
      have q1 : er = 0 := by assumption
      rw [HFL.out, ← hb1, q', q1]; rfl
    · rw [HP.out]
    · rw [HP.out]
  · refine bodyPost_ret (v := .tuple #[noMsg, .int .i64 2]) (by simp [results, Try.results19, go_sem, t0, t1, t2, t3, t4, t5, t6, t7]) rfl ⟨.inr ⟨?_, rfl⟩, ((((((((B3.setCell (p := ⟨w.heap.size, 0, none⟩) (Nat.le_refl _) _).setCell (p := ⟨w.heap.size, 1, none⟩) (Nat.le_refl _) _).setCell (p := ⟨w.heap.size, 2, none⟩) (Nat.le_refl _) _).setCell (p := ⟨w.heap.size, 3, none⟩) (Nat.le_refl _) _).setCell (p := ⟨w.heap.size, 4, none⟩) (Nat.le_refl _) _).setCell (p := ⟨w.heap.size, 5, none⟩) (Nat.le_refl _) _).setCell (p := ⟨w.heap.size, 6, none⟩) (Nat.le_refl _) _).setCell (p := ⟨w.heap.size, 7, none⟩) (Nat.le_refl _) _)⟩
    have q : ¬ er = 0 := by assumption
    rw [HFL.out, ← hb1, beq_eq_false_iff_ne.2 q, Bool.false_and]
end Go.Proofs.Ytpecfjejfkcolaa

/- mootref.Decode at a kind. -/
namespace Go.Proofs.Ytpecfjejfkcolaa
open Go.RowKit Go.Shelf
set_option linter.unusedVariables false

set_option maxRecDepth 100000 in
set_option maxHeartbeats 4000000 in
theorem refDec4 (s : ByteArray) (k f h r : Int) (n : Nat) (c : ByteArray) (p b q : Int) (w : World) (hs : s.size ≤ maxLen) (h0 : atB s 0 = k) (h1 : atB s 1 = f) (h2 : atB s 2 = h) (h3 : atB s 3 = r) (hn : 3 * h = (n : Int)) (hh : 0 ≤ h ∧ h ≤ 255) (hcs : c.size ≤ 1000) (h4 : moveAtB s 4 n = (p, c, b, q)) (hp : posMsg s = ⟨k, f, h, r, c, p, b, []⟩) (hk : k = 4) :
    Calls Try.prog 19 #[.string s] w (RefPost s w) := by
  obtain ⟨t, er, he⟩ := encRes_two ⟨k, f, h, r, c, p, b, []⟩
  have hfl := dec_flags hp he
  obtain ⟨b1, hb1⟩ : ∃ x, (er == 0) = x := ⟨_, rfl⟩
  obtain ⟨b2, hb2⟩ : ∃ x, (t.toList == s.toList) = x := ⟨_, rfl⟩
  rw [hb1, hb2] at hfl
  have HFL := hide hfl
  have HENC := hide (fun W => refEnc_nil ⟨k, f, h, r, c, p, b, []⟩ W rfl (Nat.le_trans hcs (by unfold maxLen; decide)))
  rw [he] at HENC
  have HP := hide hp
  have K0 : Hid (atB s (0 : Int).toNat = k) := h0
  have K1 : Hid (atB s (1 : Int).toNat = f) := h1
  have K2 : Hid (atB s (2 : Int).toNat = h) := h2
  have K3 : Hid (atB s (3 : Int).toNat = r) := h3
  have HA0 := box_alloc (o' := .cells #[.int .i64 k, .int .i64 f, .int .i64 h, .int .i64 r, .string c, .int .i64 p, .int .i64 b, .slice none 0 0] 39) (World.alloc_heap_new w (.cells #[.int .i64 0, .int .i64 0, .int .i64 0, .int .i64 0, .string ⟨#[]⟩, .int .i64 0, .int .i64 0, .slice none 0 0] 39 (0, 0)))
  have HB0 : (((w.alloc (.cells #[.int .i64 0, .int .i64 0, .int .i64 0, .int .i64 0, .string ⟨#[]⟩, .int .i64 0, .int .i64 0, .slice none 0 0] 39)).alloc (.cells #[.int .i64 k, .int .i64 f, .int .i64 h, .int .i64 r, .string c, .int .i64 p, .int .i64 b, .slice none 0 0] 39))).heap[w.heap.size + 1]? = some (.cells #[.int .i64 k, .int .i64 f, .int .i64 h, .int .i64 r, .string c, .int .i64 p, .int .i64 b, .slice none 0 0] 39 (0, 0)) := by
    have := World.alloc_heap_new (w.alloc (.cells #[.int .i64 0, .int .i64 0, .int .i64 0, .int .i64 0, .string ⟨#[]⟩, .int .i64 0, .int .i64 0, .slice none 0 0] 39)) (.cells #[.int .i64 k, .int .i64 f, .int .i64 h, .int .i64 r, .string c, .int .i64 p, .int .i64 b, .slice none 0 0] 39 (0, 0))
    rw [World.size_alloc] at this
    exact this
  have HA := hide HA0
  have HB := hide HB0
  have hbw : Below w.heap.size w ((w.alloc (.cells #[.int .i64 0, .int .i64 0, .int .i64 0, .int .i64 0, .string ⟨#[]⟩, .int .i64 0, .int .i64 0, .slice none 0 0] 39)).alloc (.cells #[.int .i64 k, .int .i64 f, .int .i64 h, .int .i64 r, .string c, .int .i64 p, .int .i64 b, .slice none 0 0] 39)) := (((Below.refl _ w).alloc (Nat.le_refl _) _).alloc (by simp) _)
  have HBW := hide hbw
  have HM4 : Hid (moveAtB s (4 : Int).toNat (3 * h).toNat = (p, c, b, q)) := by rw [hn, Int.toNat_natCast]; exact h4
  clear h4
  have k1 : (k == 1) = false := beq_eq_false_iff_ne.2 (by omega)
  have k2 : (k == 2) = false := beq_eq_false_iff_ne.2 (by omega)
  have k3 : (k == 3) = false := beq_eq_false_iff_ne.2 (by omega)
  have k4 : (k == 4) = true := beq_iff_eq.2 hk
  clear h0 h1 h2 h3 hp he hfl HA0 HB0 hbw hk
  go_enter Try.func19, Try.ntmps19
  go_wp2_with (first
    | (go_at_call 34; refine (at_is s _ _ hs (by omega) (by omega)).mono ?_; rintro e w' ⟨rfl, rfl⟩; first | rw [K0.out] | rw [K1.out] | rw [K2.out] | rw [K3.out])
    | (go_at_call 16; refine (HENC.out _).mono ?_; rintro e w3 ⟨rfl, hb3⟩; have a3 := (hb3.block _ (lt_of_block HA.out)).trans HA.out; have x3 := (hb3.block _ (lt_of_block HB.out)).trans HB.out; have t0 := box_read (i := 0) a3 rfl; have e0 := free_of (j := 0) a3; have c0 := box_read (i := 0) x3 rfl; have t1 := box_read (i := 1) a3 rfl; have e1 := free_of (j := 1) a3; have c1 := box_read (i := 1) x3 rfl; have t2 := box_read (i := 2) a3 rfl; have e2 := free_of (j := 2) a3; have c2 := box_read (i := 2) x3 rfl; have t3 := box_read (i := 3) a3 rfl; have e3 := free_of (j := 3) a3; have c3 := box_read (i := 3) x3 rfl; have t4 := box_read (i := 4) a3 rfl; have e4 := free_of (j := 4) a3; have c4 := box_read (i := 4) x3 rfl; have t5 := box_read (i := 5) a3 rfl; have e5 := free_of (j := 5) a3; have c5 := box_read (i := 5) x3 rfl; have t6 := box_read (i := 6) a3 rfl; have e6 := free_of (j := 6) a3; have c6 := box_read (i := 6) x3 rfl; have t7 := box_read (i := 7) a3 rfl; have e7 := free_of (j := 7) a3; have c7 := box_read (i := 7) x3 rfl)
    | (go_at_call 36; refine (moveAt_is s 4 h p b q c _ hs (by omega) (by omega) hh HM4.out).mono ?_; rintro e w' ⟨rfl, rfl⟩))
  all_goals have B3 := HBW.out.trans (hb3.mono HBW.out.size)
  · refine bodyPost_ret (v := .tuple #[noMsg, .int .i64 2]) (by simp [results, Try.results19, go_sem, t0, t1, t2, t3, t4, t5, t6, t7]) rfl ⟨.inr ⟨?_, rfl⟩, ((((((((B3.setCell (p := ⟨w.heap.size, 0, none⟩) (Nat.le_refl _) _).setCell (p := ⟨w.heap.size, 1, none⟩) (Nat.le_refl _) _).setCell (p := ⟨w.heap.size, 2, none⟩) (Nat.le_refl _) _).setCell (p := ⟨w.heap.size, 3, none⟩) (Nat.le_refl _) _).setCell (p := ⟨w.heap.size, 4, none⟩) (Nat.le_refl _) _).setCell (p := ⟨w.heap.size, 5, none⟩) (Nat.le_refl _) _).setCell (p := ⟨w.heap.size, 6, none⟩) (Nat.le_refl _) _).setCell (p := ⟨w.heap.size, 7, none⟩) (Nat.le_refl _) _)⟩
    have q : (!b2) = true := by assumption
    have q' : b2 = false := by simpa using q
    rw [HFL.out, q', Bool.and_false]
  · refine bodyPost_ret (v := .tuple #[mgV ⟨k, f, h, r, c, p, b, []⟩ (.slice none 0 0), .int .i64 0]) (by simp [results, Try.results19, go_sem, t0, t1, t2, t3, t4, t5, t6, t7]) rfl ⟨.inl ⟨?_, ?_, ?_⟩, ((((((((B3.setCell (p := ⟨w.heap.size, 0, none⟩) (Nat.le_refl _) _).setCell (p := ⟨w.heap.size, 1, none⟩) (Nat.le_refl _) _).setCell (p := ⟨w.heap.size, 2, none⟩) (Nat.le_refl _) _).setCell (p := ⟨w.heap.size, 3, none⟩) (Nat.le_refl _) _).setCell (p := ⟨w.heap.size, 4, none⟩) (Nat.le_refl _) _).setCell (p := ⟨w.heap.size, 5, none⟩) (Nat.le_refl _) _).setCell (p := ⟨w.heap.size, 6, none⟩) (Nat.le_refl _) _).setCell (p := ⟨w.heap.size, 7, none⟩) (Nat.le_refl _) _)⟩
    · have q : (!b2) = false := by assumption
      have q' : b2 = true := by simpa using q
      have q1 : er = 0 := by assumption
      rw [HFL.out, ← hb1, q', q1]; rfl
    · rw [HP.out]
    · rw [HP.out]
  · refine bodyPost_ret (v := .tuple #[noMsg, .int .i64 2]) (by simp [results, Try.results19, go_sem, t0, t1, t2, t3, t4, t5, t6, t7]) rfl ⟨.inr ⟨?_, rfl⟩, ((((((((B3.setCell (p := ⟨w.heap.size, 0, none⟩) (Nat.le_refl _) _).setCell (p := ⟨w.heap.size, 1, none⟩) (Nat.le_refl _) _).setCell (p := ⟨w.heap.size, 2, none⟩) (Nat.le_refl _) _).setCell (p := ⟨w.heap.size, 3, none⟩) (Nat.le_refl _) _).setCell (p := ⟨w.heap.size, 4, none⟩) (Nat.le_refl _) _).setCell (p := ⟨w.heap.size, 5, none⟩) (Nat.le_refl _) _).setCell (p := ⟨w.heap.size, 6, none⟩) (Nat.le_refl _) _).setCell (p := ⟨w.heap.size, 7, none⟩) (Nat.le_refl _) _)⟩
    have q : ¬ er = 0 := by assumption
    rw [HFL.out, ← hb1, beq_eq_false_iff_ne.2 q, Bool.false_and]
end Go.Proofs.Ytpecfjejfkcolaa
