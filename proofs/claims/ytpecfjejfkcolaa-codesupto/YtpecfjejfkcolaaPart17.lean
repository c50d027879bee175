import Derived.Test.YtpecfjejfkcolaaPart16
/- wire.Encode, but for Propose. -/
namespace Go.Proofs.Ytpecfjejfkcolaa
open Go.RowKit Go.Shelf
open Go.Lib (strCells strCells_length wpList_append_own_string)
set_option linter.unusedVariables false

theorem mayBe_is (t : Bool) (m : Mg) (v : Value) (w : World) (hv : MovesAt w v m.moves) (hc : m.chain.size ≤ maxLen) (ht : mayB m = t) :
    Calls Try.prog 47 #[mgV m v] w fun e w' => e = .returned (.bool t) ∧ Below w.heap.size w w' := by
  rw [← ht]; exact mayBe_any m v w hv hc
/-- the four bytes that a message begins with -/
theorem text_head {w : World} {base : Nat} (m : Mg) (hb : base ≤ w.heap.size) (h1 : 1 ≤ m.kind ∧ m.kind ≤ 6) (h2 : 0 ≤ m.frm ∧ m.frm ≤ 6) (h3 : 1 ≤ m.height ∧ m.height ≤ 7) (h4 : 0 ≤ m.round ∧ m.round ≤ 9) :
    Text (w.alloc (.cells #[.int .u8 m.kind, .int .u8 m.frm, .int .u8 m.height, .int .u8 m.round] 5)) base (.slice (some ⟨w.heap.size, 0, none⟩) 4 4) (headB m) := by
  have hc : strCells (headB m) = [.int .u8 m.kind, .int .u8 m.frm, .int .u8 m.height, .int .u8 m.round] := by
    unfold headB
    rw [strCells_append, strCells_append, strCells_append, strCells_one (by omega) (by omega), strCells_one (by omega) (by omega), strCells_one (by omega) (by omega), strCells_one (by omega) (by omega)]
    rfl
  unfold Text
  rw [hc]
  refine ⟨rfl, .inr ⟨w.heap.size, 4, _, rfl, hb, World.alloc_heap_new w _, Nat.le_refl 4, (by unfold maxLen; exact (by decide : (4 : Nat) ≤ 2 ^ 63 - 1)), rfl, rfl⟩⟩
theorem headB_size (m : Mg) : (headB m).size = 4 := rfl

set_option maxRecDepth 100000 in
set_option maxHeartbeats 2000000 in
theorem wEnc_no (m : Mg) (v : Value) (w : World) (hv : MovesAt w v m.moves) (hc : m.chain.size ≤ maxLen) (hm : mayB m = false) :
    Calls Try.prog 29 #[mgV m v] w fun e w' => e = .returned (.tuple #[.string ByteArray.empty, .int .i64 2]) ∧ Below w.heap.size w w' := by
  have HV := hide hv
  have HM := hide hm
  obtain ⟨ao, n, cap, hvs⟩ := hv.slice
  clear hv hm
  obtain ⟨k, f, h, r, c, p, b, l⟩ := m
  dsimp only at hc HV
  subst hvs
  go_enter Try.func29, Try.ntmps29
  go_wp2_with (go_at_call 47; refine (mayBe_is false ⟨k, f, h, r, c, p, b, l⟩ _ _ (HV.out.below ((Below.refl _ w).alloc (Nat.le_refl _) _)) hc HM.out).mono ?_; rintro e w1 ⟨rfl, hb1⟩)
  go_ret2
  exact ⟨rfl, ((Below.refl _ w).alloc (Nat.le_refl _) _).trans (hb1.mono (by simp))⟩

set_option maxRecDepth 100000 in
set_option maxHeartbeats 4000000 in
theorem wEnc6 (m : Mg) (v : Value) (w : World) (hv : MovesAt w v m.moves) (hm : mayB m = true) (hk : m.kind = 6) :
    Calls Try.prog 29 #[mgV m v] w fun e w' => e = .returned (.tuple #[.string (encB m), .int .i64 0]) ∧ Below w.heap.size w w' := by
  obtain ⟨i0, hi, hz0, hz1, hz2⟩ := info_parts Try.info5
  have HE := hide (enc6_eq hk)
  obtain ⟨f1, f2, f3, f4, f5, f6, f7, f8, f9⟩ := may_facts hm
  have hv1 := hide hv.slice
  have HV := hide hv
  have HM := hide hm
  have F9 := hide f9
  obtain ⟨ao, cap, hvs, hcell⟩ := hv.1
  have HC := hide hcell
  clear hv hm f9 hcell
  obtain ⟨k, f, h, r, c, p, b, l⟩ := m
  dsimp only at f1 f2 f3 f4 f5 f6 f7 f8 HV hk F9 HC hvs hv1
  have hc : c.size ≤ maxLen := by unfold maxLen; omega
  subst hvs hk
  have hB0 : Below w.heap.size w (w.alloc (.cells #[.int .i64 6, .int .i64 f, .int .i64 h, .int .i64 r, .string c, .int .i64 p, .int .i64 b, .slice ao l.length cap] 39)) := (Below.refl _ w).alloc (Nat.le_refl _) _
  have HX := hide (World.alloc_heap_new w (.cells #[.int .i64 6, .int .i64 f, .int .i64 h, .int .i64 r, .string c, .int .i64 p, .int .i64 b, .slice ao l.length cap] 39 (0, 0)))
  go_enter Try.func29, Try.ntmps29
  go_wp2_with (go_at_call 47; refine (mayBe_is true ⟨6, f, h, r, c, p, b, l⟩ _ _ (HV.out.below ((Below.refl _ w).alloc (Nat.le_refl _) _)) hc HM.out).mono ?_; rintro e w1 ⟨rfl, hb1⟩; obtain ⟨z0, z1, z2, z3, z4, z5, z6, z7⟩ := box8 hb1; have hs1 : w.heap.size + 1 ≤ w1.heap.size := (by have := hb1.size; rw [World.size_alloc] at this; exact this); have hx1 := (hb1.block w.heap.size (by simp)).trans HX.out; have T1 := hide (text_head (w := w1) (base := w.heap.size + 1) ⟨6, f, h, r, c, p, b, l⟩ hs1 f1 f2 f3 f4); have bl1 : Below (w.heap.size + 1) (w.alloc (.cells #[.int .i64 6, .int .i64 f, .int .i64 h, .int .i64 r, .string c, .int .i64 p, .int .i64 b, .slice ao l.length cap] 39)) (w1.alloc (.cells #[.int .u8 6, .int .u8 f, .int .u8 h, .int .u8 r] 5)) := (hb1.mono (by simp)).alloc hs1 _; have hx2 := box_alloc (o' := .cells #[.int .u8 6, .int .u8 f, .int .u8 h, .int .u8 r] 5) hx1; have q0 := box_read (i := 0) hx2 rfl; have q1 := box_read (i := 1) hx2 rfl; have q2 := box_read (i := 2) hx2 rfl; have q3 := box_read (i := 3) hx2 rfl; have q4 := box_read (i := 4) hx2 rfl; have q5 := box_read (i := 5) hx2 rfl; have q6 := box_read (i := 6) hx2 rfl; have q7 := box_read (i := 7) hx2 rfl; have cv := run_string_of T1.out (by rw [headB_size]; decide))
  go_ret2
  refine ⟨?_, hB0.trans (bl1.mono (Nat.le_succ _))⟩
  rw [HE.out]
  rfl

set_option maxRecDepth 100000 in
set_option maxHeartbeats 4000000 in
theorem wEnc2 (m : Mg) (v : Value) (w : World) (hv : MovesAt w v m.moves) (hm : mayB m = true) (hk : m.kind = 2) :
    Calls Try.prog 29 #[mgV m v] w fun e w' => e = .returned (.tuple #[.string (encB m), .int .i64 0]) ∧ Below w.heap.size w w' := by
  obtain ⟨i0, hi, hz0, hz1, hz2⟩ := info_parts Try.info5
  have HE := hide (enc23_eq (Or.inl hk))
  obtain ⟨f1, f2, f3, f4, f5, f6, f7, f8, f9⟩ := may_facts hm
  have hv1 := hide hv.slice
  have HV := hide hv
  have HM := hide hm
  have F9 := hide f9
  obtain ⟨ao, cap, hvs, hcell⟩ := hv.1
  have HC := hide hcell
  clear hv hm f9 hcell
  obtain ⟨k, f, h, r, c, p, b, l⟩ := m
  dsimp only at f1 f2 f3 f4 f5 f6 f7 f8 HV hk F9 HC hvs hv1
  have hc : c.size ≤ maxLen := by unfold maxLen; omega
  subst hvs hk
  have hB0 : Below w.heap.size w (w.alloc (.cells #[.int .i64 2, .int .i64 f, .int .i64 h, .int .i64 r, .string c, .int .i64 p, .int .i64 b, .slice ao l.length cap] 39)) := (Below.refl _ w).alloc (Nat.le_refl _) _
  have HX := hide (World.alloc_heap_new w (.cells #[.int .i64 2, .int .i64 f, .int .i64 h, .int .i64 r, .string c, .int .i64 p, .int .i64 b, .slice ao l.length cap] 39 (0, 0)))
  go_enter Try.func29, Try.ntmps29
  go_wp2_with (first
    | (go_at_call 47; refine (mayBe_is true ⟨2, f, h, r, c, p, b, l⟩ _ _ (HV.out.below ((Below.refl _ w).alloc (Nat.le_refl _) _)) hc HM.out).mono ?_; rintro e w1 ⟨rfl, hb1⟩; obtain ⟨z0, z1, z2, z3, z4, z5, z6, z7⟩ := box8 hb1; have hs1 : w.heap.size + 1 ≤ w1.heap.size := (by have := hb1.size; rw [World.size_alloc] at this; exact this); have hx1 := (hb1.block w.heap.size (by simp)).trans HX.out; have T1 := hide (text_head (w := w1) (base := w.heap.size + 1) ⟨2, f, h, r, c, p, b, l⟩ hs1 f1 f2 f3 f4); have bl1 : Below (w.heap.size + 1) (w.alloc (.cells #[.int .i64 2, .int .i64 f, .int .i64 h, .int .i64 r, .string c, .int .i64 p, .int .i64 b, .slice ao l.length cap] 39)) (w1.alloc (.cells #[.int .u8 2, .int .u8 f, .int .u8 h, .int .u8 r] 5)) := (hb1.mono (by simp)).alloc hs1 _; have hx2 := box_alloc (o' := .cells #[.int .u8 2, .int .u8 f, .int .u8 h, .int .u8 r] 5) hx1; have q0 := box_read (i := 0) hx2 rfl; have q1 := box_read (i := 1) hx2 rfl; have q2 := box_read (i := 2) hx2 rfl; have q3 := box_read (i := 3) hx2 rfl; have q4 := box_read (i := 4) hx2 rfl; have q5 := box_read (i := 5) hx2 rfl; have q6 := box_read (i := 6) hx2 rfl; have q7 := box_read (i := 7) hx2 rfl)
    | (at_builtin; refine wpList_append_own_string _ rfl (.tmp 58) (.tmp 60) 80 9 rfl (w.heap.size + 1) 5 i0 Try.underlying80 Try.underlying9 hi hz0 hz1 hz2 _ _ _ rfl T1.out c rfl (by unfold maxLen; rw [headB_size]; omega) (by rw [headB_size]; omega) (by simp; omega) ?_; intro v2 w2 hown2 hgrow2 _; have hx3 := box_kept hx2 T1.out (by decide) hgrow2; have y3 := box_read (i := 6) hx3 rfl; have y7 := box_read (i := 7) hx3 rfl; have bl2 := bl1.trans (app_str T1.out (by simp; omega) hgrow2); have T2 := hide (text_app hown2); have cv := run_string_of T2.out (by rw [ByteArray.size_append, headB_size]; omega)))
  go_ret2
  refine ⟨?_, hB0.trans (bl2.mono (Nat.le_succ _))⟩
  rw [HE.out]
  rfl

set_option maxRecDepth 100000 in
set_option maxHeartbeats 4000000 in
theorem wEnc3 (m : Mg) (v : Value) (w : World) (hv : MovesAt w v m.moves) (hm : mayB m = true) (hk : m.kind = 3) :
    Calls Try.prog 29 #[mgV m v] w fun e w' => e = .returned (.tuple #[.string (encB m), .int .i64 0]) ∧ Below w.heap.size w w' := by
  obtain ⟨i0, hi, hz0, hz1, hz2⟩ := info_parts Try.info5
  have HE := hide (enc23_eq (Or.inr hk))
  obtain ⟨f1, f2, f3, f4, f5, f6, f7, f8, f9⟩ := may_facts hm
  have hv1 := hide hv.slice
  have HV := hide hv
  have HM := hide hm
  have F9 := hide f9
  obtain ⟨ao, cap, hvs, hcell⟩ := hv.1
  have HC := hide hcell
  clear hv hm f9 hcell
  obtain ⟨k, f, h, r, c, p, b, l⟩ := m
  dsimp only at f1 f2 f3 f4 f5 f6 f7 f8 HV hk F9 HC hvs hv1
  have hc : c.size ≤ maxLen := by unfold maxLen; omega
  subst hvs hk
  have hB0 : Below w.heap.size w (w.alloc (.cells #[.int .i64 3, .int .i64 f, .int .i64 h, .int .i64 r, .string c, .int .i64 p, .int .i64 b, .slice ao l.length cap] 39)) := (Below.refl _ w).alloc (Nat.le_refl _) _
  have HX := hide (World.alloc_heap_new w (.cells #[.int .i64 3, .int .i64 f, .int .i64 h, .int .i64 r, .string c, .int .i64 p, .int .i64 b, .slice ao l.length cap] 39 (0, 0)))
  go_enter Try.func29, Try.ntmps29
  go_wp2_with (first
    | (go_at_call 47; refine (mayBe_is true ⟨3, f, h, r, c, p, b, l⟩ _ _ (HV.out.below ((Below.refl _ w).alloc (Nat.le_refl _) _)) hc HM.out).mono ?_; rintro e w1 ⟨rfl, hb1⟩; obtain ⟨z0, z1, z2, z3, z4, z5, z6, z7⟩ := box8 hb1; have hs1 : w.heap.size + 1 ≤ w1.heap.size := (by have := hb1.size; rw [World.size_alloc] at this; exact this); have hx1 := (hb1.block w.heap.size (by simp)).trans HX.out; have T1 := hide (text_head (w := w1) (base := w.heap.size + 1) ⟨3, f, h, r, c, p, b, l⟩ hs1 f1 f2 f3 f4); have bl1 : Below (w.heap.size + 1) (w.alloc (.cells #[.int .i64 3, .int .i64 f, .int .i64 h, .int .i64 r, .string c, .int .i64 p, .int .i64 b, .slice ao l.length cap] 39)) (w1.alloc (.cells #[.int .u8 3, .int .u8 f, .int .u8 h, .int .u8 r] 5)) := (hb1.mono (by simp)).alloc hs1 _; have hx2 := box_alloc (o' := .cells #[.int .u8 3, .int .u8 f, .int .u8 h, .int .u8 r] 5) hx1; have q0 := box_read (i := 0) hx2 rfl; have q1 := box_read (i := 1) hx2 rfl; have q2 := box_read (i := 2) hx2 rfl; have q3 := box_read (i := 3) hx2 rfl; have q4 := box_read (i := 4) hx2 rfl; have q5 := box_read (i := 5) hx2 rfl; have q6 := box_read (i := 6) hx2 rfl; have q7 := box_read (i := 7) hx2 rfl)
    | (at_builtin; refine wpList_append_own_string _ rfl (.tmp 58) (.tmp 60) 80 9 rfl (w.heap.size + 1) 5 i0 Try.underlying80 Try.underlying9 hi hz0 hz1 hz2 _ _ _ rfl T1.out c rfl (by unfold maxLen; rw [headB_size]; omega) (by rw [headB_size]; omega) (by simp; omega) ?_; intro v2 w2 hown2 hgrow2 _; have hx3 := box_kept hx2 T1.out (by decide) hgrow2; have y3 := box_read (i := 6) hx3 rfl; have y7 := box_read (i := 7) hx3 rfl; have bl2 := bl1.trans (app_str T1.out (by simp; omega) hgrow2); have T2 := hide (text_app hown2); have cv := run_string_of T2.out (by rw [ByteArray.size_append, headB_size]; omega)))
  go_ret2
  refine ⟨?_, hB0.trans (bl2.mono (Nat.le_succ _))⟩
  rw [HE.out]
  rfl

set_option maxRecDepth 100000 in
set_option maxHeartbeats 4000000 in
theorem wEnc5 (m : Mg) (v : Value) (w : World) (hv : MovesAt w v m.moves) (hm : mayB m = true) (hk : m.kind = 5) :
    Calls Try.prog 29 #[mgV m v] w fun e w' => e = .returned (.tuple #[.string (encB m), .int .i64 0]) ∧ Below w.heap.size w w' := by
  obtain ⟨i0, hi, hz0, hz1, hz2⟩ := info_parts Try.info5
  have HE := hide (enc5_eq hk)
  obtain ⟨f1, f2, f3, f4, f5, f6, f7, f8, f9⟩ := may_facts hm
  have hv1 := hide hv.slice
  have HV := hide hv
  have HM := hide hm
  have F9 := hide f9
  obtain ⟨ao, cap, hvs, hcell⟩ := hv.1
  have HC := hide hcell
  clear hv hm f9 hcell
  obtain ⟨k, f, h, r, c, p, b, l⟩ := m
  dsimp only at f1 f2 f3 f4 f5 f6 f7 f8 HV hk F9 HC hvs hv1
  have hc : c.size ≤ maxLen := by unfold maxLen; omega
  subst hvs hk
  have hB0 : Below w.heap.size w (w.alloc (.cells #[.int .i64 5, .int .i64 f, .int .i64 h, .int .i64 r, .string c, .int .i64 p, .int .i64 b, .slice ao l.length cap] 39)) := (Below.refl _ w).alloc (Nat.le_refl _) _
  have HX := hide (World.alloc_heap_new w (.cells #[.int .i64 5, .int .i64 f, .int .i64 h, .int .i64 r, .string c, .int .i64 p, .int .i64 b, .slice ao l.length cap] 39 (0, 0)))
  go_enter Try.func29, Try.ntmps29
  go_wp2_with (first
    | (go_at_call 47; refine (mayBe_is true ⟨5, f, h, r, c, p, b, l⟩ _ _ (HV.out.below ((Below.refl _ w).alloc (Nat.le_refl _) _)) hc HM.out).mono ?_; rintro e w1 ⟨rfl, hb1⟩; obtain ⟨z0, z1, z2, z3, z4, z5, z6, z7⟩ := box8 hb1; have hs1 : w.heap.size + 1 ≤ w1.heap.size := (by have := hb1.size; rw [World.size_alloc] at this; exact this); have hx1 := (hb1.block w.heap.size (by simp)).trans HX.out; have T1 := hide (text_head (w := w1) (base := w.heap.size + 1) ⟨5, f, h, r, c, p, b, l⟩ hs1 f1 f2 f3 f4); have bl1 : Below (w.heap.size + 1) (w.alloc (.cells #[.int .i64 5, .int .i64 f, .int .i64 h, .int .i64 r, .string c, .int .i64 p, .int .i64 b, .slice ao l.length cap] 39)) (w1.alloc (.cells #[.int .u8 5, .int .u8 f, .int .u8 h, .int .u8 r] 5)) := (hb1.mono (by simp)).alloc hs1 _; have hx2 := box_alloc (o' := .cells #[.int .u8 5, .int .u8 f, .int .u8 h, .int .u8 r] 5) hx1; have q0 := box_read (i := 0) hx2 rfl; have q1 := box_read (i := 1) hx2 rfl; have q2 := box_read (i := 2) hx2 rfl; have q3 := box_read (i := 3) hx2 rfl; have q4 := box_read (i := 4) hx2 rfl; have q5 := box_read (i := 5) hx2 rfl; have q6 := box_read (i := 6) hx2 rfl; have q7 := box_read (i := 7) hx2 rfl)
    | (at_builtin; refine wpList_append_own_string _ rfl (.tmp 70) (.tmp 72) 80 9 rfl (w.heap.size + 1) 5 i0 Try.underlying80 Try.underlying9 hi hz0 hz1 hz2 _ _ _ rfl T1.out c rfl (by unfold maxLen; rw [headB_size]; omega) (by rw [headB_size]; omega) (by simp; omega) ?_; intro v2 w2 hown2 hgrow2 _; have hx3 := box_kept hx2 T1.out (by decide) hgrow2; have y3 := box_read (i := 6) hx3 rfl; have y7 := box_read (i := 7) hx3 rfl; have bl2 := bl1.trans (app_str T1.out (by simp; omega) hgrow2); have T2 := hide (text_app hown2))
    | (at_builtin; refine wpList_append_own _ rfl (.tmp 74) (.tmp 78) 80 rfl (w.heap.size + 1) 5 i0 (.int .u8 0) 1 1 Try.underlying80 hi hz0 hz1 hz2 rfl (by decide) v2 _ _ rfl (World.ownsRow.alloc T2.out _) ⟨_, 0, none⟩ 1 1 [.int .u8 b] rfl rfl (cell_one_at _ _ _ _ (by simp)) (by simp [Value.oneCell']) (by unfold maxLen; rw [ByteArray.size_append, headB_size]; omega) (by rw [ByteArray.size_append, headB_size]; omega) (by have := bl2.size; simp at this ⊢; omega) ?_; intro v3 w3 hown3 hgrow3 _; have bl3 := bl2.trans (app_one T2.out (by have := bl2.size; simp at this ⊢; omega) hgrow3); have T3 := hide (text_push hown3 (by omega) (by omega)); have cv := run_string_of T3.out (by rw [ByteArray.size_append, ByteArray.size_append, headB_size]; omega)))
  go_ret2
  refine ⟨?_, hB0.trans (bl3.mono (Nat.le_succ _))⟩
  rw [HE.out]
  rfl

set_option maxRecDepth 100000 in
set_option maxHeartbeats 4000000 in
theorem wEnc4 (m : Mg) (v : Value) (w : World) (hv : MovesAt w v m.moves) (hm : mayB m = true) (hk : m.kind = 4) :
    Calls Try.prog 29 #[mgV m v] w fun e w' => e = .returned (.tuple #[.string (encB m), .int .i64 0]) ∧ Below w.heap.size w w' := by
  obtain ⟨i0, hi, hz0, hz1, hz2⟩ := info_parts Try.info5
  have HE := hide (enc4_eq hk)
  obtain ⟨f1, f2, f3, f4, f5, f6, f7, f8, f9⟩ := may_facts hm
  have hv1 := hide hv.slice
  have HV := hide hv
  have HM := hide hm
  have F9 := hide f9
  obtain ⟨ao, cap, hvs, hcell⟩ := hv.1
  have HC := hide hcell
  clear hv hm f9 hcell
  obtain ⟨k, f, h, r, c, p, b, l⟩ := m
  dsimp only at f1 f2 f3 f4 f5 f6 f7 f8 HV hk F9 HC hvs hv1
  have hc : c.size ≤ maxLen := by unfold maxLen; omega
  subst hvs hk
  have hB0 : Below w.heap.size w (w.alloc (.cells #[.int .i64 4, .int .i64 f, .int .i64 h, .int .i64 r, .string c, .int .i64 p, .int .i64 b, .slice ao l.length cap] 39)) := (Below.refl _ w).alloc (Nat.le_refl _) _
  have HX := hide (World.alloc_heap_new w (.cells #[.int .i64 4, .int .i64 f, .int .i64 h, .int .i64 r, .string c, .int .i64 p, .int .i64 b, .slice ao l.length cap] 39 (0, 0)))
  go_enter Try.func29, Try.ntmps29
  go_wp2_with (first
    | (go_at_call 47; refine (mayBe_is true ⟨4, f, h, r, c, p, b, l⟩ _ _ (HV.out.below ((Below.refl _ w).alloc (Nat.le_refl _) _)) hc HM.out).mono ?_; rintro e w1 ⟨rfl, hb1⟩; obtain ⟨z0, z1, z2, z3, z4, z5, z6, z7⟩ := box8 hb1; have hs1 : w.heap.size + 1 ≤ w1.heap.size := (by have := hb1.size; rw [World.size_alloc] at this; exact this); have hx1 := (hb1.block w.heap.size (by simp)).trans HX.out; have T1 := hide (text_head (w := w1) (base := w.heap.size + 1) ⟨4, f, h, r, c, p, b, l⟩ hs1 f1 f2 f3 f4); have bl1 : Below (w.heap.size + 1) (w.alloc (.cells #[.int .i64 4, .int .i64 f, .int .i64 h, .int .i64 r, .string c, .int .i64 p, .int .i64 b, .slice ao l.length cap] 39)) (w1.alloc (.cells #[.int .u8 4, .int .u8 f, .int .u8 h, .int .u8 r] 5)) := (hb1.mono (by simp)).alloc hs1 _; have hx2 := box_alloc (o' := .cells #[.int .u8 4, .int .u8 f, .int .u8 h, .int .u8 r] 5) hx1; have q0 := box_read (i := 0) hx2 rfl; have q1 := box_read (i := 1) hx2 rfl; have q2 := box_read (i := 2) hx2 rfl; have q3 := box_read (i := 3) hx2 rfl; have q4 := box_read (i := 4) hx2 rfl; have q5 := box_read (i := 5) hx2 rfl; have q6 := box_read (i := 6) hx2 rfl; have q7 := box_read (i := 7) hx2 rfl)
    | (go_at_call 49; refine (moveOf_any ⟨4, f, h, r, c, p, b, l⟩ _ _ hv1.out).mono ?_; rintro e w2 ⟨rfl, hb2⟩; have T2 := hide (show Text w2 _ _ _ from ownsRow_below T1.out hb2); have s2 := hb2.size; rw [World.size_alloc] at s2; have bl2 := bl1.trans (hb2.mono (by simp; omega)))
    | (go_at_call 48; refine (appendMove_any (w.heap.size + 1) _ _ ⟨f, p, c, b⟩ _ T2.out (by omega) (by rw [headB_size]; omega) f6 f5 f7).mono ?_; rintro e w3 ⟨v3, rfl, t3, hb3⟩; have T3 := hide t3; clear t3; have bl3 := bl2.trans hb3; have cv := run_string_of T3.out (by rw [ByteArray.size_append, headB_size]; omega)))
  go_ret2
  refine ⟨?_, hB0.trans (bl3.mono (Nat.le_succ _))⟩
  rw [HE.out]
  rfl
end Go.Proofs.Ytpecfjejfkcolaa
