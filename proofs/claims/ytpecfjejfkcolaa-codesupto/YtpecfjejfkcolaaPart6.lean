import Derived.Test.YtpecfjejfkcolaaPart5
/- mootref.Encode, but for Propose. -/
namespace Go.Proofs.Ytpecfjejfkcolaa
open Go.RowKit
set_option linter.unusedVariables false

set_option maxRecDepth 100000 in
set_option maxHeartbeats 4000000 in
theorem refEnc6 (m : Mg) (v : Value) (w : World) (hv : MovesAt w v m.moves) (hm : mayB m = true) (hk : m.kind = 6) :
    Calls Try.prog 16 #[mgV m v] w fun e w' => e = .returned (.tuple #[.string (encB m), .int .i64 0]) ∧ Below w.heap.size w w' := by
  have HE := hide (enc6_eq hk)
  obtain ⟨f1, f2, f3, f4, f5, f6, f7, f8, f9⟩ := may_facts hm
  have HV := hide hv
  have HM := hide hm
  have F9 := hide f9
  obtain ⟨ao, cap, hvs, hcell⟩ := hv.1
  have HC := hide hcell
  clear hv hm f9 hcell
  obtain ⟨k, f, h, r, c, p, b, l⟩ := m
  dsimp only at f1 f2 f3 f4 f5 f6 f7 f8 HV hk F9 HC hvs
  have hc : c.size ≤ maxLen := by unfold maxLen; omega
  subst hvs hk
  obtain ⟨wb, hwb⟩ : ∃ wb, wb = w.alloc (.cells #[.int .i64 6, .int .i64 f, .int .i64 h, .int .i64 r, .string c, .int .i64 p, .int .i64 b, .slice ao l.length cap] 39) := ⟨_, rfl⟩
  have hB0 : Below w.heap.size w wb := by rw [hwb]; exact (Below.refl _ w).alloc (Nat.le_refl _) _
  have hsz : w.heap.size < wb.heap.size := by rw [hwb]; simp
  have H8 := hide (fun wr (h : Below wb.heap.size wb wr) => box8 (w := w) (wr := wr) (by rw [← hwb]; exact h))
  go_enter Try.func16, Try.ntmps16
  go_wp2_with (go_at_call 30; refine (may_is true ⟨6, f, h, r, c, p, b, l⟩ _ _ (HV.out.below ((Below.refl _ w).alloc (Nat.le_refl _) _)) hc HM.out).mono ?_; rintro e w1 ⟨rfl, hb1⟩)
  rw [← hwb] at hb1
  clear hwb
  obtain ⟨z0, z1, z2, z3, z4, z5, z6, z7⟩ := H8.out w1 hb1
  have o6 : (oneB 6).size = 1 := rfl
  have of : (oneB f).size = 1 := rfl
  have oh : (oneB h).size = 1 := rfl
  have or : (oneB r).size = 1 := rfl
  have ob : (oneB b).size = 1 := rfl
  have hB1 := hb1.drew
  go_region_held3 (fun w' => w'.cell? ⟨w.heap.size, 0, none⟩ = some (.int .i64 6) ∧ w'.cell? ⟨w.heap.size, 1, none⟩ = some (.int .i64 f) ∧ w'.cell? ⟨w.heap.size, 2, none⟩ = some (.int .i64 h) ∧ w'.cell? ⟨w.heap.size, 3, none⟩ = some (.int .i64 r)) (go_keep)
    ((go_at_call 31; refine (one_any _ _ (by omega) (by omega)).mono ?_; rintro e w2 ⟨rfl, hb2⟩; have hB1 := hB1.trans (hb2.mono hB1.size); obtain ⟨z0, z1, z2, z3, z4, z5, z6, z7⟩ := H8.out _ hB1))
  go_wp2
  go_ret2
  refine ⟨?_, hB0.trans (hB1.mono hB0.size)⟩
  rw [HE.out]
  rfl

set_option maxRecDepth 100000 in
set_option maxHeartbeats 4000000 in
theorem refEnc2 (m : Mg) (v : Value) (w : World) (hv : MovesAt w v m.moves) (hm : mayB m = true) (hk : m.kind = 2) :
    Calls Try.prog 16 #[mgV m v] w fun e w' => e = .returned (.tuple #[.string (encB m), .int .i64 0]) ∧ Below w.heap.size w w' := by
  have HE := hide (enc23_eq (Or.inl hk))
  obtain ⟨f1, f2, f3, f4, f5, f6, f7, f8, f9⟩ := may_facts hm
  have HV := hide hv
  have HM := hide hm
  have F9 := hide f9
  obtain ⟨ao, cap, hvs, hcell⟩ := hv.1
  have HC := hide hcell
  clear hv hm f9 hcell
  obtain ⟨k, f, h, r, c, p, b, l⟩ := m
  dsimp only at f1 f2 f3 f4 f5 f6 f7 f8 HV hk F9 HC hvs
  have hc : c.size ≤ maxLen := by unfold maxLen; omega
  subst hvs hk
  obtain ⟨wb, hwb⟩ : ∃ wb, wb = w.alloc (.cells #[.int .i64 2, .int .i64 f, .int .i64 h, .int .i64 r, .string c, .int .i64 p, .int .i64 b, .slice ao l.length cap] 39) := ⟨_, rfl⟩
  have hB0 : Below w.heap.size w wb := by rw [hwb]; exact (Below.refl _ w).alloc (Nat.le_refl _) _
  have hsz : w.heap.size < wb.heap.size := by rw [hwb]; simp
  have H8 := hide (fun wr (h : Below wb.heap.size wb wr) => box8 (w := w) (wr := wr) (by rw [← hwb]; exact h))
  go_enter Try.func16, Try.ntmps16
  go_wp2_with (go_at_call 30; refine (may_is true ⟨2, f, h, r, c, p, b, l⟩ _ _ (HV.out.below ((Below.refl _ w).alloc (Nat.le_refl _) _)) hc HM.out).mono ?_; rintro e w1 ⟨rfl, hb1⟩)
  rw [← hwb] at hb1
  clear hwb
  obtain ⟨z0, z1, z2, z3, z4, z5, z6, z7⟩ := H8.out w1 hb1
  have o6 : (oneB 2).size = 1 := rfl
  have of : (oneB f).size = 1 := rfl
  have oh : (oneB h).size = 1 := rfl
  have or : (oneB r).size = 1 := rfl
  have ob : (oneB b).size = 1 := rfl
  have hB1 := hb1.drew
  go_region_held3 (fun w' => w'.cell? ⟨w.heap.size, 0, none⟩ = some (.int .i64 2) ∧ w'.cell? ⟨w.heap.size, 1, none⟩ = some (.int .i64 f) ∧ w'.cell? ⟨w.heap.size, 2, none⟩ = some (.int .i64 h) ∧ w'.cell? ⟨w.heap.size, 3, none⟩ = some (.int .i64 r)) (go_keep)
    ((go_at_call 31; refine (one_any _ _ (by omega) (by omega)).mono ?_; rintro e w2 ⟨rfl, hb2⟩; have hB1 := hB1.trans (hb2.mono hB1.size); obtain ⟨z0, z1, z2, z3, z4, z5, z6, z7⟩ := H8.out _ hB1))
  go_wp2
  go_ret2
  refine ⟨?_, hB0.trans (hB1.mono hB0.size)⟩
  rw [HE.out]
  rfl

set_option maxRecDepth 100000 in
set_option maxHeartbeats 4000000 in
theorem refEnc3 (m : Mg) (v : Value) (w : World) (hv : MovesAt w v m.moves) (hm : mayB m = true) (hk : m.kind = 3) :
    Calls Try.prog 16 #[mgV m v] w fun e w' => e = .returned (.tuple #[.string (encB m), .int .i64 0]) ∧ Below w.heap.size w w' := by
  have HE := hide (enc23_eq (Or.inr hk))
  obtain ⟨f1, f2, f3, f4, f5, f6, f7, f8, f9⟩ := may_facts hm
  have HV := hide hv
  have HM := hide hm
  have F9 := hide f9
  obtain ⟨ao, cap, hvs, hcell⟩ := hv.1
  have HC := hide hcell
  clear hv hm f9 hcell
  obtain ⟨k, f, h, r, c, p, b, l⟩ := m
  dsimp only at f1 f2 f3 f4 f5 f6 f7 f8 HV hk F9 HC hvs
  have hc : c.size ≤ maxLen := by unfold maxLen; omega
  subst hvs hk
  obtain ⟨wb, hwb⟩ : ∃ wb, wb = w.alloc (.cells #[.int .i64 3, .int .i64 f, .int .i64 h, .int .i64 r, .string c, .int .i64 p, .int .i64 b, .slice ao l.length cap] 39) := ⟨_, rfl⟩
  have hB0 : Below w.heap.size w wb := by rw [hwb]; exact (Below.refl _ w).alloc (Nat.le_refl _) _
  have hsz : w.heap.size < wb.heap.size := by rw [hwb]; simp
  have H8 := hide (fun wr (h : Below wb.heap.size wb wr) => box8 (w := w) (wr := wr) (by rw [← hwb]; exact h))
  go_enter Try.func16, Try.ntmps16
  go_wp2_with (go_at_call 30; refine (may_is true ⟨3, f, h, r, c, p, b, l⟩ _ _ (HV.out.below ((Below.refl _ w).alloc (Nat.le_refl _) _)) hc HM.out).mono ?_; rintro e w1 ⟨rfl, hb1⟩)
  rw [← hwb] at hb1
  clear hwb
  obtain ⟨z0, z1, z2, z3, z4, z5, z6, z7⟩ := H8.out w1 hb1
  have o6 : (oneB 3).size = 1 := rfl
  have of : (oneB f).size = 1 := rfl
  have oh : (oneB h).size = 1 := rfl
  have or : (oneB r).size = 1 := rfl
  have ob : (oneB b).size = 1 := rfl
  have hB1 := hb1.drew
  go_region_held3 (fun w' => w'.cell? ⟨w.heap.size, 0, none⟩ = some (.int .i64 3) ∧ w'.cell? ⟨w.heap.size, 1, none⟩ = some (.int .i64 f) ∧ w'.cell? ⟨w.heap.size, 2, none⟩ = some (.int .i64 h) ∧ w'.cell? ⟨w.heap.size, 3, none⟩ = some (.int .i64 r)) (go_keep)
    ((go_at_call 31; refine (one_any _ _ (by omega) (by omega)).mono ?_; rintro e w2 ⟨rfl, hb2⟩; have hB1 := hB1.trans (hb2.mono hB1.size); obtain ⟨z0, z1, z2, z3, z4, z5, z6, z7⟩ := H8.out _ hB1))
  go_wp2
  go_ret2
  refine ⟨?_, hB0.trans (hB1.mono hB0.size)⟩
  rw [HE.out]
  rfl

set_option maxRecDepth 100000 in
set_option maxHeartbeats 4000000 in
theorem refEnc4 (m : Mg) (v : Value) (w : World) (hv : MovesAt w v m.moves) (hm : mayB m = true) (hk : m.kind = 4) :
    Calls Try.prog 16 #[mgV m v] w fun e w' => e = .returned (.tuple #[.string (encB m), .int .i64 0]) ∧ Below w.heap.size w w' := by
  have HE := hide (enc4_eq hk)
  obtain ⟨f1, f2, f3, f4, f5, f6, f7, f8, f9⟩ := may_facts hm
  have HV := hide hv
  have HM := hide hm
  have F9 := hide f9
  obtain ⟨ao, cap, hvs, hcell⟩ := hv.1
  have HC := hide hcell
  clear hv hm f9 hcell
  obtain ⟨k, f, h, r, c, p, b, l⟩ := m
  dsimp only at f1 f2 f3 f4 f5 f6 f7 f8 HV hk F9 HC hvs
  have hc : c.size ≤ maxLen := by unfold maxLen; omega
  subst hvs hk
  obtain ⟨wb, hwb⟩ : ∃ wb, wb = w.alloc (.cells #[.int .i64 4, .int .i64 f, .int .i64 h, .int .i64 r, .string c, .int .i64 p, .int .i64 b, .slice ao l.length cap] 39) := ⟨_, rfl⟩
  have hB0 : Below w.heap.size w wb := by rw [hwb]; exact (Below.refl _ w).alloc (Nat.le_refl _) _
  have hsz : w.heap.size < wb.heap.size := by rw [hwb]; simp
  have H8 := hide (fun wr (h : Below wb.heap.size wb wr) => box8 (w := w) (wr := wr) (by rw [← hwb]; exact h))
  go_enter Try.func16, Try.ntmps16
  go_wp2_with (go_at_call 30; refine (may_is true ⟨4, f, h, r, c, p, b, l⟩ _ _ (HV.out.below ((Below.refl _ w).alloc (Nat.le_refl _) _)) hc HM.out).mono ?_; rintro e w1 ⟨rfl, hb1⟩)
  rw [← hwb] at hb1
  clear hwb
  obtain ⟨z0, z1, z2, z3, z4, z5, z6, z7⟩ := H8.out w1 hb1
  have o6 : (oneB 4).size = 1 := rfl
  have of : (oneB f).size = 1 := rfl
  have oh : (oneB h).size = 1 := rfl
  have or : (oneB r).size = 1 := rfl
  have ob : (oneB b).size = 1 := rfl
  have hB1 := hb1.drew
  go_region_held3 (fun w' => w'.cell? ⟨w.heap.size, 0, none⟩ = some (.int .i64 4) ∧ w'.cell? ⟨w.heap.size, 1, none⟩ = some (.int .i64 f) ∧ w'.cell? ⟨w.heap.size, 2, none⟩ = some (.int .i64 h) ∧ w'.cell? ⟨w.heap.size, 3, none⟩ = some (.int .i64 r)) (go_keep)
    ((go_at_call 31; refine (one_any _ _ (by omega) (by omega)).mono ?_; rintro e w2 ⟨rfl, hb2⟩; have hB1 := hB1.trans (hb2.mono hB1.size); obtain ⟨z0, z1, z2, z3, z4, z5, z6, z7⟩ := H8.out _ hB1))
  have ov : (mvB p c b).size ≤ 100 := by unfold mvB; split <;> simp [ByteArray.size_append, oneB_size] <;> omega
  go_wp2_with (go_at_call 32; refine (move_any p b c _ (by omega) (by omega) (by omega)).mono ?_; rintro e w3 ⟨rfl, hb3⟩; have hB1 := hB1.trans (hb3.mono hB1.size))
  go_ret2
  refine ⟨?_, hB0.trans (hB1.mono hB0.size)⟩
  rw [HE.out]
  rfl

set_option maxRecDepth 100000 in
set_option maxHeartbeats 4000000 in
theorem refEnc5 (m : Mg) (v : Value) (w : World) (hv : MovesAt w v m.moves) (hm : mayB m = true) (hk : m.kind = 5) :
    Calls Try.prog 16 #[mgV m v] w fun e w' => e = .returned (.tuple #[.string (encB m), .int .i64 0]) ∧ Below w.heap.size w w' := by
  have HE := hide (enc5_eq hk)
  obtain ⟨f1, f2, f3, f4, f5, f6, f7, f8, f9⟩ := may_facts hm
  have HV := hide hv
  have HM := hide hm
  have F9 := hide f9
  obtain ⟨ao, cap, hvs, hcell⟩ := hv.1
  have HC := hide hcell
  clear hv hm f9 hcell
  obtain ⟨k, f, h, r, c, p, b, l⟩ := m
  dsimp only at f1 f2 f3 f4 f5 f6 f7 f8 HV hk F9 HC hvs
  have hc : c.size ≤ maxLen := by unfold maxLen; omega
  subst hvs hk
  obtain ⟨wb, hwb⟩ : ∃ wb, wb = w.alloc (.cells #[.int .i64 5, .int .i64 f, .int .i64 h, .int .i64 r, .string c, .int .i64 p, .int .i64 b, .slice ao l.length cap] 39) := ⟨_, rfl⟩
  have hB0 : Below w.heap.size w wb := by rw [hwb]; exact (Below.refl _ w).alloc (Nat.le_refl _) _
  have hsz : w.heap.size < wb.heap.size := by rw [hwb]; simp
  have H8 := hide (fun wr (h : Below wb.heap.size wb wr) => box8 (w := w) (wr := wr) (by rw [← hwb]; exact h))
  go_enter Try.func16, Try.ntmps16
  go_wp2_with (go_at_call 30; refine (may_is true ⟨5, f, h, r, c, p, b, l⟩ _ _ (HV.out.below ((Below.refl _ w).alloc (Nat.le_refl _) _)) hc HM.out).mono ?_; rintro e w1 ⟨rfl, hb1⟩)
  rw [← hwb] at hb1
  clear hwb
  obtain ⟨z0, z1, z2, z3, z4, z5, z6, z7⟩ := H8.out w1 hb1
  have o6 : (oneB 5).size = 1 := rfl
  have of : (oneB f).size = 1 := rfl
  have oh : (oneB h).size = 1 := rfl
  have or : (oneB r).size = 1 := rfl
  have ob : (oneB b).size = 1 := rfl
  have hB1 := hb1.drew
  go_region_held3 (fun w' => w'.cell? ⟨w.heap.size, 0, none⟩ = some (.int .i64 5) ∧ w'.cell? ⟨w.heap.size, 1, none⟩ = some (.int .i64 f) ∧ w'.cell? ⟨w.heap.size, 2, none⟩ = some (.int .i64 h) ∧ w'.cell? ⟨w.heap.size, 3, none⟩ = some (.int .i64 r)) (go_keep)
    ((go_at_call 31; refine (one_any _ _ (by omega) (by omega)).mono ?_; rintro e w2 ⟨rfl, hb2⟩; have hB1 := hB1.trans (hb2.mono hB1.size); obtain ⟨z0, z1, z2, z3, z4, z5, z6, z7⟩ := H8.out _ hB1))
  obtain ⟨hd, hhd⟩ : ∃ s, s = oneB 5 ++ oneB f ++ oneB h ++ oneB r := ⟨_, rfl⟩
  have hd4 : hd.size = 4 := by rw [hhd]; rfl
  have a1 := strAdd (a := hd) (b := c) (by omega)
  have a2 := strAdd (a := hd ++ c) (b := oneB b) (by rw [ByteArray.size_append, ob]; omega)
  rw [← hhd]
  have HD := hide hhd
  clear hhd
  go_wp2
  have hB1 := hB1.drew
  go_region_held3 (fun w' => w'.cell? ⟨w.heap.size, 4, none⟩ = some (.string c) ∧ w'.cell? ⟨w.heap.size, 6, none⟩ = some (.int .i64 b)) (go_keep)
    ((go_at_call 31; refine (one_any _ _ (by omega) (by omega)).mono ?_; rintro e w3 ⟨rfl, hb3⟩; have hB1 := hB1.trans (hb3.mono hB1.size); obtain ⟨z0, z1, z2, z3, z4, z5, z6, z7⟩ := H8.out _ hB1))
  go_wp2
  go_ret2
  refine ⟨?_, hB0.trans (hB1.mono hB0.size)⟩
  rw [HE.out, HD.out]
  rfl
end Go.Proofs.Ytpecfjejfkcolaa

/- mootref.Encode: Propose; the whole. -/
namespace Go.Proofs.Ytpecfjejfkcolaa
open Go.RowKit
set_option linter.unusedVariables false
theorem box4 {w wr : World} {a0 a1 a2 a3 : Value} {t : TypeId} (h : Below (w.alloc (.cells #[a0, a1, a2, a3] t)).heap.size (w.alloc (.cells #[a0, a1, a2, a3] t)) wr) :
    wr.cell? ⟨w.heap.size, 0, none⟩ = some a0 ∧ wr.cell? ⟨w.heap.size, 1, none⟩ = some a1 ∧ wr.cell? ⟨w.heap.size, 2, none⟩ = some a2 ∧ wr.cell? ⟨w.heap.size, 3, none⟩ = some a3 := by
  have h' : Below (w.heap.size + 1) _ wr := h.mono (by rw [World.size_alloc]; exact Nat.le_refl _)
  exact ⟨box_cell h' rfl, box_cell h' rfl, box_cell h' rfl, box_cell h' rfl⟩
theorem mvB_size {p b : Int} {c : ByteArray} (h : c.size ≤ 21) : (mvB p c b).size ≤ 30 := by
  unfold mvB; split <;> simp [ByteArray.size_append, oneB_size] <;> omega

set_option maxRecDepth 100000 in
set_option maxHeartbeats 4000000 in
theorem refEnc1 (m : Mg) (v : Value) (w : World) (hv : MovesAt w v m.moves) (hm : mayB m = true) (hk : m.kind = 1) :
    Calls Try.prog 16 #[mgV m v] w fun e w' => e = .returned (.tuple #[.string (encB m), .int .i64 0]) ∧ Below w.heap.size w w' := by
  have HE := hide (enc1_eq hk)
  obtain ⟨f1, f2, f3, f4, f5, f6, f7, f8, f9⟩ := may_facts hm
  have HV := hide hv
  have HM := hide hm
  have F9 := hide f9
  obtain ⟨ao, cap, hvs, hcell⟩ := hv.1
  have HC := hide hcell
  clear hv hm f9 hcell
  obtain ⟨k, f, h, r, c, p, b, l⟩ := m
  dsimp only at f1 f2 f3 f4 f5 f6 f7 f8 HV hk F9 HC hvs
  have hc : c.size ≤ maxLen := by unfold maxLen; omega
  subst hvs hk
  obtain ⟨wb, hwb⟩ : ∃ wb, wb = w.alloc (.cells #[.int .i64 1, .int .i64 f, .int .i64 h, .int .i64 r, .string c, .int .i64 p, .int .i64 b, .slice ao l.length cap] 39) := ⟨_, rfl⟩
  have hB0 : Below w.heap.size w wb := by rw [hwb]; exact (Below.refl _ w).alloc (Nat.le_refl _) _
  have hsz : w.heap.size < wb.heap.size := by rw [hwb]; simp
  have H8 := hide (fun wr (h : Below wb.heap.size wb wr) => box8 (w := w) (wr := wr) (by rw [← hwb]; exact h))
  go_enter Try.func16, Try.ntmps16
  go_wp2_with (go_at_call 30; refine (may_is true ⟨1, f, h, r, c, p, b, l⟩ _ _ (HV.out.below ((Below.refl _ w).alloc (Nat.le_refl _) _)) hc HM.out).mono ?_; rintro e w1 ⟨rfl, hb1⟩)
  rw [← hwb] at hb1
  clear hwb
  obtain ⟨z0, z1, z2, z3, z4, z5, z6, z7⟩ := H8.out w1 hb1
  have o6 : (oneB 1).size = 1 := rfl
  have of : (oneB f).size = 1 := rfl
  have oh : (oneB h).size = 1 := rfl
  have or : (oneB r).size = 1 := rfl
  have ob : (oneB b).size = 1 := rfl
  have hB1 := hb1.drew
  go_region_held3 (fun w' => w'.cell? ⟨w.heap.size, 0, none⟩ = some (.int .i64 1) ∧ w'.cell? ⟨w.heap.size, 1, none⟩ = some (.int .i64 f) ∧ w'.cell? ⟨w.heap.size, 2, none⟩ = some (.int .i64 h) ∧ w'.cell? ⟨w.heap.size, 3, none⟩ = some (.int .i64 r)) (go_keep)
    ((go_at_call 31; refine (one_any _ _ (by omega) (by omega)).mono ?_; rintro e w2 ⟨rfl, hb2⟩; have hB1 := hB1.trans (hb2.mono hB1.size); obtain ⟨z0, z1, z2, z3, z4, z5, z6, z7⟩ := H8.out _ hB1))
  obtain ⟨hd, hhd⟩ : ∃ s, s = oneB 1 ++ oneB f ++ oneB h ++ oneB r := ⟨_, rfl⟩
  have hd4 : hd.size = 4 := by rw [hhd]; rfl
  have ol : (oneB (l.length : Int)).size = 1 := rfl
  have a1 := strAdd (a := hd) (b := c) (by omega)
  have a2 := strAdd (a := hd ++ c) (b := oneB (l.length : Int)) (by rw [ByteArray.size_append, ol]; omega)
  rw [← hhd]
  have HD := hide hhd
  clear hhd
  go_wp2
  have hB1 := hB1.drew
  go_region_held3 (fun w' => w'.cell? ⟨w.heap.size, 4, none⟩ = some (.string c) ∧ w'.cell? ⟨w.heap.size, 7, none⟩ = some (.slice ao l.length cap)) (go_keep)
    ((go_at_call 31; refine (one_any _ _ (by omega) (by omega)).mono ?_; rintro e w3 ⟨rfl, hb3⟩; have hB1 := hB1.trans (hb3.mono hB1.size); obtain ⟨z0, z1, z2, z3, z4, z5, z6, z7⟩ := H8.out _ hB1))
  go_wp2
  go_loopw [5, 6] (fun st i wr => ∃ (j : Nat) (s : ByteArray), j ≤ l.length ∧ i = .int .i64 (j : Int) ∧ st = .string s ∧ Hid (movesB s (l.drop j) = encB ⟨1, f, h, r, c, p, b, l⟩) ∧ s.size ≤ 100 + 40 * j ∧ Below wb.heap.size wb wr) (fun _ i _ => l.length - (intOf i).toNat)
  case atStart => exact ⟨0, _, by omega, rfl, rfl, by rw [HE.out, HD.out]; rfl, by simp only [ByteArray.size_append, hd4, ol]; omega, hB1⟩
  case round =>
    obtain ⟨j, s, hj, rfl, rfl, henc, hss, hB⟩ := hrel
    obtain ⟨y0, y1, y2, y3, y4, y5, y6, y7⟩ := H8.out wr hB
    have hBw : Below w.heap.size w wr := hB0.trans (hB.mono hB0.size)
    by_cases hlt : j < l.length
    · obtain ⟨b0, off, rfl, hlt0, hcell⟩ := HC.out (by omega)
      obtain ⟨c0, c1, c2, c3⟩ := hcell j hlt
      clear hcell
      rw [← hBw.cell (p := ⟨b0, off + j * 4, none⟩) hlt0] at c0
      rw [← hBw.cell (p := ⟨b0, off + j * 4 + 1, none⟩) hlt0] at c1
      rw [← hBw.cell (p := ⟨b0, off + j * 4 + 2, none⟩) hlt0] at c2
      rw [← hBw.cell (p := ⟨b0, off + j * 4 + 3, none⟩) hlt0] at c3
      obtain ⟨g1, g2, g3, g4⟩ := F9.out _ (List.getElem_mem hlt)
      have hst : Hid (movesB s (l.drop j) = movesB (s ++ oneB l[j].node ++ mvB l[j].prep l[j].chain l[j].by') (l.drop (j + 1))) := by
        show _ = _
        rw [List.drop_eq_getElem_cons hlt]; rfl
      obtain ⟨x, hx⟩ : ∃ x, l[j] = x := ⟨_, rfl⟩
      rw [hx] at c0 c1 c2 c3 g1 g2 g3 g4 hst
      clear hx
      obtain ⟨n, q, d, y⟩ := x
      dsimp only at c0 c1 c2 c3 g1 g2 g3 g4 hst
      have i0 : (0 : Int) ≤ (j : Int) := by omega
      have i1 : (j : Int) < (l.length : Int) := by omega
      have on : (oneB n).size = 1 := rfl
      have om := mvB_size (p := q) (b := y) g4
      have a3 := strAdd (a := s) (b := oneB n) (by omega)
      have a4 := strAdd (a := s ++ oneB n) (b := mvB q d y) (by rw [ByteArray.size_append, on]; omega)
      obtain ⟨wa, hwa⟩ : ∃ wa, wa = wr.alloc (.cells #[.int .i64 n, .int .i64 q, .string d, .int .i64 y] 43) := ⟨_, rfl⟩
      have hBa : Below wr.heap.size wr wa := by rw [hwa]; exact (Below.refl _ wr).alloc (Nat.le_refl _) _
      have H4 := hide (fun wx (h : Below wa.heap.size wa wx) => box4 (w := wr) (wr := wx) (by rw [← hwa]; exact h))
      obtain ⟨x0, x1, x2, x3⟩ := H4.out wa (Below.refl _ _)
      go_wp2
      rw [← hwa]
      clear hwa
      have hA := (Below.refl wa.heap.size wa).drew
      go_region_held3 (fun w' => w'.cell? ⟨wr.heap.size, 0, none⟩ = some (.int .i64 n) ∧ w'.cell? ⟨wr.heap.size, 1, none⟩ = some (.int .i64 q) ∧ w'.cell? ⟨wr.heap.size, 2, none⟩ = some (.string d) ∧ w'.cell? ⟨wr.heap.size, 3, none⟩ = some (.int .i64 y)) (go_keep)
        (first
          | (go_at_call 31; refine (one_any _ _ (by omega) (by omega)).mono ?_; rintro e w5 ⟨rfl, hb5⟩; have hA := hA.trans (hb5.mono hA.size); obtain ⟨x0, x1, x2, x3⟩ := H4.out _ hA)
          | (go_at_call 32; refine (move_any _ _ _ _ (by omega) (by omega) (by omega)).mono ?_; rintro e w5 ⟨rfl, hb5⟩; have hA := hA.trans (hb5.mono hA.size); obtain ⟨x0, x1, x2, x3⟩ := H4.out _ hA))
      go_wp2
      go_roundw
      case rel => exact ⟨j + 1, _, by omega, by go_num, rfl, by rw [← hst.out, henc.out]; rfl, by simp only [ByteArray.size_append, on]; omega, hB.trans ((hBa.mono hB.size).trans (hA.mono (Nat.le_trans hB.size hBa.size)))⟩
      case measure => simp [intOf]; omega
    · go_wp2
      go_ret2
      refine ⟨?_, hBw⟩
      rw [← henc.out, List.drop_eq_nil_of_le (by omega)]
      rfl

theorem refEnc_ok (m : Mg) (v : Value) (w : World) (hv : MovesAt w v m.moves) (hm : mayB m = true) :
    Calls Try.prog 16 #[mgV m v] w fun e w' => e = .returned (.tuple #[.string (encB m), .int .i64 0]) ∧ Below w.heap.size w w' := by
  have hk := (may_facts hm).kind
  by_cases h1 : m.kind = 1
  · exact refEnc1 m v w hv hm h1
  by_cases h2 : m.kind = 2
  · exact refEnc2 m v w hv hm h2
  by_cases h3 : m.kind = 3
  · exact refEnc3 m v w hv hm h3
  by_cases h4 : m.kind = 4
  · exact refEnc4 m v w hv hm h4
  by_cases h5 : m.kind = 5
  · exact refEnc5 m v w hv hm h5
  exact refEnc6 m v w hv hm (by omega)
end Go.Proofs.Ytpecfjejfkcolaa

/- The document's small functions: In, block. -/
namespace Go.Proofs.Ytpecfjejfkcolaa
open Go.RowKit
set_option linter.unusedVariables false

/-- a slice value that reads as these numbers -/
def Ints (w : World) (v : Value) (l : List Int) : Prop :=
  (l = [] ∧ v = .slice none 0 0) ∨ ∃ g cap, v = .slice (some ⟨g, 0, none⟩) l.length cap ∧ ∀ j, j < l.length → w.cell? ⟨g, j, none⟩ = some (.int .i64 (l.getD j 0))

set_option maxHeartbeats 400000 in
theorem in_any (l : List Int) (v : Value) (n : Int) (w : World) (hv : Ints w v l) (hl : l.length ≤ 1000) :
    Calls Try.prog 27 #[v, .int .i64 n] w fun e w' => e = .returned (.bool (decide (n ∈ l))) ∧ w' = w := by
  rcases hv with ⟨rfl, rfl⟩ | ⟨g, cap, rfl, hc⟩
  · go_enter Try.func27, Try.ntmps27
    go_wp2
    refine wp_loop_rounds 1 ?_
    rw [rounds_succ]
    go_wp2
    go_ret
    exact ⟨ret_bool (by simp), rfl⟩
  · go_enter Try.func27, Try.ntmps27
    go_wp2
    go_loop [5] (fun i => ∃ k : Nat, k ≤ l.length ∧ i = .int .i64 k ∧ n ∉ l.take k) (fun i => l.length - (intOf i).toNat)
    case atStart => exact ⟨0, Nat.zero_le _, rfl, by simp⟩
    case round =>
      obtain ⟨k, hk, rfl, hn⟩ := hrel
      by_cases hlt : k < l.length
      · have hck := hc k hlt
        have HN : Hid (n ∉ l.take k) := hn
        clear hn
        go_wp2
        · have hb : (l[k] == n) = true := by assumption
          go_ret
          refine ⟨ret_bool ?_, rfl⟩
          have e : l[k] = n := by simpa using hb
          rw [eq_comm, decide_eq_true_eq, ← e]
          exact List.getElem_mem hlt
        · have hb : (l[k] == n) = false := by assumption
          go_round
          case rel =>
            refine ⟨k + 1, by omega, by go_num, ?_⟩
            rw [List.take_succ_eq_append_getElem hlt, List.mem_append]
            rintro (h | h)
            · exact HN.out h
            · simp at h
              simp [h] at hb
          case measure => simp [intOf]; omega
      · go_wp2
        go_ret
        refine ⟨ret_bool ?_, rfl⟩
        rw [List.take_of_length_le (by omega)] at hn
        simp [hn]

theorem in_is (b : Bool) (l : List Int) (v : Value) (n : Int) (w : World) (hv : Ints w v l) (hl : l.length ≤ 1000) (h : decide (n ∈ l) = b) :
    Calls Try.prog 27 #[v, .int .i64 n] w fun e w' => e = .returned (.bool b) ∧ w' = w := by
  rw [← h]; exact in_any l v n w hv hl

set_option maxHeartbeats 400000 in
theorem block_any (s : ByteArray) (w : World) (hs : s.size = 3) :
    Calls Try.prog 26 #[.string s] w fun e w' => e = .returned (.bool (blkOk (byt s 0) (byt s 1) (byt s 2))) ∧ w' = w := by
  have h0 : 0 < s.size := by omega
  have h1 : 1 < s.size := by omega
  have h2 : 2 < s.size := by omega
  have e0 := byt_eq s 0 h0
  have e1 := byt_eq s 1 h1
  have e2 := byt_eq s 2 h2
  go_enter Try.func26, Try.ntmps26
  go_wp2
  all_goals
    go_ret
    refine ⟨ret_bool ?_, rfl⟩
    rw [Bool.eq_iff_iff, blkOk_iff]
    clear e0 e1 e2
    simp only [beq_iff_eq, decide_eq_true_eq, beq_eq_false_iff_ne, ne_eq, Bool.false_eq_true, false_iff] at *
    omega
end Go.Proofs.Ytpecfjejfkcolaa
