import Derived.Test.YtpecfjejfkcolaaPart12
/- chains.Members: the loop. -/
namespace Go.Proofs.Ytpecfjejfkcolaa
open Go.RowKit Go.Shelf
attribute [local go_sem] Oper.semAt_some
set_option linter.unusedVariables false

theorem cell_three_new (w : World) (a b c : Value) (t : TypeId) : ∀ j u, [a, b, c][j]? = some u → (w.alloc (.cells #[a, b, c] t)).cell? ((⟨w.heap.size, 0, none⟩ : Addr).add j) = some u := by
  intro j u hj
  match j, hj with
  | 0, hj => simp at hj; subst hj; simp [Addr.add]
  | 1, hj => simp at hj; subst hj; simp [Addr.add]
  | 2, hj => simp at hj; subst hj; simp [Addr.add]
  | n + 3, hj => simp at hj
theorem Try.info88 : (Try.prog.info? 88).map (fun i => (i.zero, i.size, i.bytes)) = some (some (.agg #[.int .i64 0, .int .u8 0, .int .i64 0]), 3, 24) := by kernel_rfl

/-- what stands between two rounds: the members and the epoch's blocks in their boxes -/
def MidC (B : Nat) (c : ByteArray) (s0 m : Nat) (pre : List (Fin m)) (W : World) : Prop :=
  ∃ s ep v, runC c s0 (pre.map Fin.val) = some (s, ep) ∧ Boxed W B 66 (.int .i64 0) ∧ Boxed W (B + 1) 46 (.int .i64 0) ∧ Boxed W (B + 1 + 1) 66 (.int .i64 (s : Int)) ∧ Boxed W (B + 1 + 1 + 1) 83 v ∧ OwnBlks W B v ep ∧ Boxed W (B + 1 + 1 + 1 + 1) 9 (.string c)
theorem midC_own (B : Nat) (c : ByteArray) (s0 m : Nat) : Own (MidC B c s0 m) := by
  rintro pre X Y row ⟨s, ep, v, h1, b0, b1, b2, b3, hv, hsz⟩ hg hr
  obtain ⟨v', hb', hv', rfl⟩ := holdsRow_own B (B + 1 + 1 + 1) 83 88 3 (fun _ : Unit => ep.length) (fun _ => rowCells ep) (fun _ u => u = v) () X Y row ⟨v, b3, hv, rfl⟩ hg hr
  exact ⟨s, ep, v', h1, boxed_own' _ _ (fun _ : Unit => _) () X Y row b0 hg hr, boxed_own' _ _ (fun _ : Unit => _) () X Y row b1 hg hr, boxed_own' _ _ (fun _ : Unit => _) () X Y row b2 hg hr, hb', hv', boxed_own' _ _ (fun _ : Unit => _) () X Y row hsz hg hr⟩
/-- behind a round that has returned -/
def EndC (B : Nat) (c : ByteArray) (s0 m : Nat) (pre : List (Fin m)) (W : World) : Prop :=
  runC c s0 (pre.map Fin.val) = none ∧ Boxed W B 66 (.int .i64 0) ∧ Boxed W (B + 1) 46 (.int .i64 5)
theorem endC_own (B : Nat) (c : ByteArray) (s0 m : Nat) : Own (EndC B c s0 m) := by
  rintro pre X Y row ⟨h1, b0, b1⟩ hg hr
  exact ⟨h1, boxed_own' _ _ (fun _ : Unit => _) () X Y row b0 hg hr, boxed_own' _ _ (fun _ : Unit => _) () X Y row b1 hg hr⟩

/-- what the call answers -/
def chRes : Option Nat → Value
  | none => .tuple #[.int .i64 0, .int .i64 5]
  | some s => .tuple #[.int .i64 (s : Int), .int .i64 0]

set_option maxRecDepth 100000 in
set_option maxHeartbeats 2000000 in
theorem chMembers_run (n : Nat) (c : ByteArray) (w : World) (h4 : 4 ≤ n) (h8 : n < 8) (h3 : c.size % 3 = 0) (h18 : c.size ≤ 18) :
    Calls Try.prog 22 #[.int .i64 (n : Int), .string c] w fun e w' => e = .returned (chRes (memTo c (firstS n) (c.size / 3))) ∧ Below w.heap.size w w' := by
  have hs0 := firstS_lt h8
  obtain ⟨m, hm⟩ : ∃ m, c.size / 3 = m := ⟨_, rfl⟩
  rw [hm]
  have HM := hide hm
  have hm6 : m ≤ 6 := by omega
  have h3B : (((c.size : Int) % 3) != 0) = false := by simp; omega
  obtain ⟨s0, hs0e⟩ : ∃ s0, firstS n = s0 := ⟨_, rfl⟩
  rw [hs0e] at hs0 ⊢
  have HS0 := hide hs0e
  have H3 := hide h3
  have hA : decide ((n : Int) < 4) = false := by simp; omega
  have hA2 : decide (7 < (n : Int)) = false := by simp; omega
  have hA3 : decide (6 < (m : Int)) = false := by simp; omega
  clear hm hs0e h3
  refine (callsIn_wide (n := 6)).1 ?_
  refine callsIn_of_wp_marks Try.func22 rfl trivial ?_ rfl
  simp only [Try.ntmps22, List.size_toArray, List.length_cons, List.length_nil, Nat.reduceAdd, Nat.reduceSub, Array.replicate_succ, Array.replicate_zero, List.push_toArray, List.append_toArray, List.nil_append, List.cons_append]
  gi_wp2_with (first
    | (refine ⟨trivial, ?_⟩; gi_at_call 37; refine (callsIn_wide.2 (blocks_is m c _ (by unfold maxLen; omega) HM.out)).mono ?_; rintro e w' ⟨rfl, rfl⟩)
    | (refine ⟨trivial, ?_⟩; gi_at_call 38; refine (callsIn_wide.2 (first_any n h8 _)).mono ?_; rintro e w' ⟨rfl, rfl⟩; rw [HS0.out])
    | (refine ⟨trivial, ?_⟩; gi_at_call 39; refine (callsIn_wide.2 (entries_any _ _)).mono ?_; rintro e w' ⟨rfl, rfl⟩))
  have b0 := Boxed.new w 66 (.int .i64 0)
  have b1 := Boxed.new (w.alloc (.cells #[.int .i64 0] 66)) 46 (.int .i64 0)
  have b2 := Boxed.new ((w.alloc (.cells #[.int .i64 0] 66)).alloc (.cells #[.int .i64 0] 46)) 66 (.int .i64 (s0 : Int))
  have b3 := Boxed.new (((w.alloc (.cells #[.int .i64 0] 66)).alloc (.cells #[.int .i64 0] 46)).alloc (.cells #[.int .i64 (s0 : Int)] 66)) 83 (.slice none 0 0)
  have b4 := Boxed.new ((((w.alloc (.cells #[.int .i64 0] 66)).alloc (.cells #[.int .i64 0] 46)).alloc (.cells #[.int .i64 (s0 : Int)] 66)).alloc (.cells #[.slice none 0 0] 83)) 9 (.string c)
  simp only [World.size_alloc] at b1 b2 b3 b4
  have hB0 : Below w.heap.size w (((((w.alloc (.cells #[.int .i64 0] 66)).alloc (.cells #[.int .i64 0] 46)).alloc (.cells #[.int .i64 (s0 : Int)] 66)).alloc (.cells #[.slice none 0 0] 83)).alloc (.cells #[.string c] 9)) := (((((Below.refl _ w).alloc (Nat.le_refl _) _).alloc (by simp) _).alloc (by simp; omega) _).alloc (by simp; omega) _).alloc (by simp; omega) _
  refine wpIn_rangeFunc_ownG rfl (by omega) (gf := 53) (lb := #[.pointer (some ⟨w.heap.size + 1 + 1 + 1 + 1, 0, none⟩)]) rfl trivial (enters_of Try.func53 (by kernel_rfl) rfl)
    (entries_stops 5 (by omega) (w.heap.size + 1 + 1 + 1 + 1) m c h18 HM.out _ b4) keepB_t (keepB_b (by simp)) (Below.refl _ _) (fun _ => rfl)
    (fun pre W => MidC w.heap.size c s0 m pre W ∧ Below w.heap.size w W)
    (fun cd pre W => (cd = .ret ∧ EndC w.heap.size c s0 m pre W) ∧ Below w.heap.size w W)
    (OwnFrom.and (Own.from (midC_own _ _ _ _) _) (ownFrom_below (Nat.le_refl _) (by simp; omega)))
    (fun cd => OwnFrom.and (Own.from (fun s A B row hs hg hr => ⟨hs.1, endC_own _ _ _ _ s A B row hs.2 hg hr⟩) _) (ownFrom_below (Nat.le_refl _) (by simp; omega)))
    ⟨⟨s0, [], .slice none 0 0, rfl, (((b0.alloc _).alloc _).alloc _).alloc _, ((b1.alloc _).alloc _).alloc _, (b2.alloc _).alloc _, b3.alloc _, World.ownsRow_nil _ _ _ _, b4⟩, hB0⟩
    (fun x => { tmps := #[.int .i64 (n : Int), .string c, undef, undef, .pointer (some ⟨w.heap.size, 0, none⟩), .pointer (some ⟨w.heap.size + 1, 0, none⟩), .pointer (some ⟨w.heap.size + 1 + 1, 0, none⟩), .pointer (some ⟨w.heap.size + 1 + 1 + 1, 0, none⟩), .int .i64 ((x.1 : Int) + 1), .string (c.extract (x.1 * 3) ((x.1 + 1) * 3)), undef, undef, .int .i64 (n : Int), .bool false, .bool false, .int .i64 (n : Int), .bool false, .bool false, .string c, .int .i64 (c.size : Int), .int .i64 ((c.size : Int) % 3), .bool false, .bool false, .string c, .int .i64 (m : Int), .bool false, .bool false, .int .i64 (n : Int), .int .i64 (s0 : Int), .string c, .func (.func 53) #[] #[.pointer (some ⟨w.heap.size + 1 + 1 + 1 + 1, 0, none⟩)], .int .i64 ((x.1 : Int) + 1), .string (c.extract (x.1 * 3) ((x.1 + 1) * 3)), undef, undef, undef, undef, undef, undef, undef, undef, undef, undef, undef, undef, undef, undef, undef, undef, undef, undef, undef, undef, undef, undef, undef, undef, undef], defers := [] }) ?assign ?body ?done ?stop
  case assign =>
    intro l x W K hK
    gi_wp2
    exact hK
  case body =>
    rintro l pre x W ⟨⟨s, ep, v, hrun, hb0, hb1, hb2, hb3, hv, hb4⟩, hB⟩ hlt
    obtain ⟨hs128, hepl, hepb⟩ := runC_facts hs0 _ s ep hrun
    rw [List.length_map] at hepl
    have hsn : runC c s0 ((pre ++ [x]).map Fin.val) = stepC c (some (s, ep)) x.1 := by
      rw [List.map_append, List.map_cons, List.map_nil, runC_snoc, hrun]
    have hx := x.2
    have hxs : (x.1 + 1) * 3 ≤ c.size := by have := HM.out; omega
    have hts : (c.extract (x.1 * 3) ((x.1 + 1) * 3)).size = 3 := by rw [ByteArray.size_extract]; omega
    have ht0 : byt (c.extract (x.1 * 3) ((x.1 + 1) * 3)) 0 = byt c (3 * x.1) := by rw [byt_extract c _ _ 0 (by omega) hxs]; congr 1; omega
    have ht1 : byt (c.extract (x.1 * 3) ((x.1 + 1) * 3)) 1 = byt c (3 * x.1 + 1) := by rw [byt_extract c _ _ 1 (by omega) hxs]; congr 1; omega
    have ht2 : byt (c.extract (x.1 * 3) ((x.1 + 1) * 3)) 2 = byt c (3 * x.1 + 2) := by rw [byt_extract c _ _ 2 (by omega) hxs]; congr 1; omega
    obtain ⟨t, hT⟩ : ∃ t, c.extract (x.1 * 3) ((x.1 + 1) * 3) = t := ⟨_, rfl⟩
    rw [hT] at hts ht0 ht1 ht2 ⊢
    have hokt : blkOk (byt t 0) (byt t 1) (byt t 2) = okAt c x.1 := by rw [ht0, ht1, ht2]; rfl
    have hbk : (blkAt c x.1) = (byt t 0 - 48, byt t 1, byt t 2 - 48) := by rw [ht0, ht1, ht2]; rfl
    simp only [stepC] at hsn
    rw [← hokt, ← ht0, hbk] at hsn
    obtain ⟨y0, hy0⟩ : ∃ y, byt t 0 = y := ⟨_, rfl⟩
    obtain ⟨y1, hy1⟩ : ∃ y, byt t 1 = y := ⟨_, rfl⟩
    obtain ⟨y2, hy2⟩ : ∃ y, byt t 2 = y := ⟨_, rfl⟩
    have hread := fun W' => read_any t W' hts
    rw [hy0, hy1, hy2] at hread hsn
    obtain ⟨xv, hxv⟩ : ∃ xv, x.1 = xv := ⟨_, rfl⟩
    rw [hxv] at hsn hx ⊢
    have HREAD := hide hread
    have HEPB := hide hepb
    have hc2 := hb2.cell
    have hc3 := hb3.cell
    have hblt := hb4.lt
    clear hT hts ht0 ht1 ht2 hokt hbk hy0 hy1 hy2 hxs hread hrun hxv hepb
    obtain ⟨b, hbe⟩ : ∃ b, blkOk y0 y1 y2 = b := ⟨_, rfl⟩
    have hy := fun h => blkOk_iff.1 (hbe.trans h)
    rw [hbe] at hsn
    have HBE := hide hbe
    clear hbe
    gi_wp2_with fail
    refine ⟨trivial, ?_⟩
    refine (CallsIn.inRound l (callsIn_wide.2 (HREAD.out _))).mono ?_
    rintro e W1 ⟨mk, sg, ab, ok, rfl, hok, hval, hbel⟩
    rw [HBE.out] at hok
    subst hok
    have hb01 := boxed_below hb0 hbel
    have hb11 := boxed_below hb1 hbel
    have hb21 := boxed_below hb2 hbel
    have hb31 := boxed_below hb3 hbel
    have hb41 := boxed_below hb4 hbel
    have hsz1 := hbel.size
    have hv1 := show OwnBlks W1 w.heap.size _ ep from ownsRow_below hv hbel
    have k0 := (hb01.alloc (.cells #[.int .i64 mk, .int .u8 sg, .int .i64 ab] 88))
    have k1 := (hb11.alloc (.cells #[.int .i64 mk, .int .u8 sg, .int .i64 ab] 88))
    have k2 := (hb21.alloc (.cells #[.int .i64 mk, .int .u8 sg, .int .i64 ab] 88))
    have k3 := (hb31.alloc (.cells #[.int .i64 mk, .int .u8 sg, .int .i64 ab] 88))
    have k4 := (hb41.alloc (.cells #[.int .i64 mk, .int .u8 sg, .int .i64 ab] 88))
    have kv := World.ownsRow.alloc hv1 (.cells #[.int .i64 mk, .int .u8 sg, .int .i64 ab] 88)
    have hbelA := (hbel.alloc hsz1 (.cells #[.int .i64 mk, .int .u8 sg, .int .i64 ab] 88))
    have q0 := hb01.cell
    have q1 := hb11.cell
    have q2 := hb21.cell
    have q3 := hb31.cell
    have r0 := hb01.frozen
    have r1 := hb11.frozen
    have r2 := hb21.frozen
    have r3 := hb31.frozen
    have p0 := k0.cell
    have p1 := k1.cell
    have p2 := k2.cell
    have p3 := k3.cell
    have f0 := k0.frozen
    have f1 := k1.frozen
    have f2 := k2.frozen
    have f3 := k3.frozen
    clear hc2 hc3 hbel
    cases ok with
    | false =>
      rw [if_neg (by simp)] at hsn
      have HSN := hide hsn
      clear hsn
      gi_wp2
      refine ⟨trivial, ?_⟩
      gi_wp2
      exact ⟨((keepsOthers_of_below hbelA).trans ((KeepsOthers.setCell _ _ _).trans (KeepsOthers.setCell _ _ _))).from _, ⟨rfl, HSN.out, boxed_keep_set (k0.set _) (by omega) _, (boxed_keep_set k1 (by omega) _).set _⟩, ((hB.trans (hbelA.mono hB.size)).setCell (p := ⟨w.heap.size, 0, none⟩) (Nat.le_refl _) _).setCell (p := ⟨w.heap.size + 1, 0, none⟩) (by simp) _⟩
    | true =>
      obtain ⟨rfl, rfl, rfl⟩ := hval rfl
      have hyb := hy rfl
      have hy0b : 48 ≤ y0 ∧ y0 ≤ 54 := ⟨hyb.1, hyb.2.1⟩
      have hhas : hasS s ((y0 : Int) - 48) = s.testBit (y0 - 48) := by
        have e : ((y0 : Int) - 48) = ((y0 - 48 : Nat) : Int) := by omega
        have h7 : ((y0 - 48 : Nat) : Int) < 7 := by omega
        rw [e]; simp only [hasS]
        rw [decide_eq_true (show (0 : Int) ≤ ((y0 - 48 : Nat) : Int) by omega), decide_eq_true h7, Int.toNat_natCast]; rfl
      clear hyb hy hval
      obtain ⟨bt, hbt⟩ : ∃ bt, s.testBit (y0 - 48) = bt := ⟨_, rfl⟩
      rw [hbt] at hsn hhas
      have HHAS := hide hhas
      clear hbt hhas
      cases bt with
      | false =>
        rw [if_neg (by simp)] at hsn
        have HSN := hide hsn
        clear hsn
        gi_wp2_with (refine ⟨trivial, ?_⟩; gi_at_call 41; refine (CallsIn.inRound l (callsIn_wide.2 (has_is false s hs128 _ _ HHAS.out))).mono ?_; rintro e w' ⟨rfl, rfl⟩)
        exact ⟨((keepsOthers_of_below hbelA).trans ((KeepsOthers.setCell _ _ _).trans (KeepsOthers.setCell _ _ _))).from _, ⟨rfl, HSN.out, boxed_keep_set (k0.set _) (by omega) _, (boxed_keep_set k1 (by omega) _).set _⟩, ((hB.trans (hbelA.mono hB.size)).setCell (p := ⟨w.heap.size, 0, none⟩) (Nat.le_refl _) _).setCell (p := ⟨w.heap.size + 1, 0, none⟩) (by simp) _⟩
      | true =>
        rw [if_pos ⟨rfl, rfl⟩] at hsn
        obtain ⟨i0, hi, hz0, hz1, hz2⟩ := info_parts Try.info88
        have hepx : ep.length ≤ 5 := by omega
        have ey0 : ((y0 : Int) - 48) = ((y0 - 48 : Nat) : Int) := by omega
        have hB1 := hB.size
        have hy2b : 48 ≤ y2 := by
          have h := (blkOk_iff.1 HBE.out).2.2
          omega
        have hcells : rowCells (ep ++ [(y0 - 48, y1, y2 - 48)]) = rowCells ep ++ [.int .i64 ((y0 : Int) - 48), .int .u8 (y1 : Int), .int .i64 ((y2 : Int) - 48)] := by
          rw [rowCells_snoc]
          have e2 : ((y2 : Int) - 48) = ((y2 - 48 : Nat) : Int) := by omega
          rw [ey0, e2]; rfl
        have HCELLS := hide hcells
        have hepb2 : ∀ b ∈ ep ++ [(y0 - 48, y1, y2 - 48)], b.1 < 7 := by
          intro b hb
          rcases List.mem_append.1 hb with h | h
          · exact HEPB.out b h
          · simp at h; rw [h]; show y0 - 48 < 7; omega
        have HEPB2 := hide hepb2
        have HSN := hide hsn
        have HKV := hide kv
        have HK3 := hide k3
        have KA : Hid (Below W.heap.size W (W1.alloc (.cells #[.int .i64 ((y0 : Int) - 48), .int .u8 (y1 : Int), .int .i64 ((y2 : Int) - 48)] 88))) := hbelA
        clear hcells hepb2 hsn ey0 q0 q1 q2 q3 r0 r1 r2 r3 f0 f1 f2 p0 p1 hb01 hb11 hb21 hb31 hv1 hbelA
        have hW2 : (W1.alloc (.cells #[.int .i64 ((y0 : Int) - 48), .int .u8 (y1 : Int), .int .i64 ((y2 : Int) - 48)] 88)).heap.size = W1.heap.size + 1 := by simp
        have hnews := cell_three_new (W1.alloc (.cells #[.int .i64 ((y0 : Int) - 48), .int .u8 (y1 : Int), .int .i64 ((y2 : Int) - 48)] 88)) (.int .i64 ((y0 : Int) - 48)) (.int .u8 (y1 : Int)) (.int .i64 ((y2 : Int) - 48)) 88
        rw [hW2] at hnews
        have HNEWS := hide hnews
        clear hnews
        by_cases h33 : (xv + 1) % 3 = 0
        · have h33B : ((((xv : Int) + 1) % 3) == 0) = true := by simp; omega
          gi_wp2_with (first
            | (refine ⟨trivial, ?_⟩; gi_at_call 41; refine (CallsIn.inRound l (callsIn_wide.2 (has_is true s hs128 _ _ HHAS.out))).mono ?_; rintro e w' ⟨rfl, rfl⟩)
            | (gi_at_builtin; go_must (refine wpListIn_append_own _ rfl _ _ 83 rfl w.heap.size 88 i0 (.agg #[.int .i64 0, .int .u8 0, .int .i64 0]) 3 24 Try.underlying83 hi hz0 hz1 hz2 rfl (by decide) _ _ _ rfl (World.ownsRow.alloc HKV.out _) ⟨W1.heap.size + 1, 0, none⟩ 1 1 [.int .i64 ((y0 : Int) - 48), .int .u8 (y1 : Int), .int .i64 ((y2 : Int) - 48)] rfl rfl HNEWS.out (by simp [Value.oneCell']) (by unfold maxLen; omega) (by omega) (by simp; omega) ?_); intro v' w1 hown' hgrow _; obtain ⟨g', cap', rfl⟩ := ownsRow_succ hown'; obtain ⟨hv1, hv2, hr2, hk2, hb2⟩ := HK3.out.appended (by decide) HKV.out (by omega) (by omega) hown' hgrow; have hc1 := hv1.cell; have hf1 := hv1.frozen; have j0 := (k0.alloc _).kept hgrow (k0.not_row (by decide) HKV.out); have j1 := (k1.alloc _).kept hgrow (k1.not_row (by decide) HKV.out); have j2 := (k2.alloc _).kept hgrow (k2.not_row (by decide) HKV.out); have j4 := (k4.alloc _).kept hgrow (k4.not_row (by decide) HKV.out); have jc2 := j2.cell))
          have n0 := boxed_keep_set (b := w.heap.size + 1 + 1 + 1) j0 (by omega) (.slice (some ⟨g', 0, none⟩) (ep.length + 1) cap')
          have n1 := boxed_keep_set (b := w.heap.size + 1 + 1 + 1) j1 (by omega) (.slice (some ⟨g', 0, none⟩) (ep.length + 1) cap')
          have n2 := boxed_keep_set (b := w.heap.size + 1 + 1 + 1) j2 (by omega) (.slice (some ⟨g', 0, none⟩) (ep.length + 1) cap')
          have n4 := boxed_keep_set (b := w.heap.size + 1 + 1 + 1) j4 (by omega) (.slice (some ⟨g', 0, none⟩) (ep.length + 1) cap')
          have hr3 : OwnBlks (w1.setCell ⟨w.heap.size + 1 + 1 + 1, 0, none⟩ (.slice (some ⟨g', 0, none⟩) (ep.length + 1) cap')) w.heap.size (.slice (some ⟨g', 0, none⟩) (ep.length + 1) cap') (ep ++ [(y0 - 48, y1, y2 - 48)]) := by
            unfold OwnBlks; rw [HCELLS.out, List.length_append]; exact hr2
          refine ⟨trivial, ?_⟩
          refine (CallsIn.inRound l (callsIn_wide.2 (count_any (ep ++ [(y0 - 48, y1, y2 - 48)]) w.heap.size s _ _ hs128 hr3 HEPB2.out (by simp; omega)))).mono ?_
          rintro e w4 ⟨rfl, hbel4⟩
          have o0 := boxed_below n0 hbel4
          have o1 := boxed_below n1 hbel4
          have o2 := boxed_below n2 hbel4
          have o3 := boxed_below hv2 hbel4
          have o4 := boxed_below n4 hbel4
          have oc2 := o2.cell
          have of2 := o2.frozen
          have oc3 := o3.cell
          have of3 := o3.frozen
          rw [if_pos h33] at HSN
          gi_wp2
          have u0 := boxed_keep_set (b := w.heap.size + 1 + 1 + 1) (boxed_keep_set (b := w.heap.size + 1 + 1) o0 (by omega) (.int .i64 (countS (ep ++ [(y0 - 48, y1, y2 - 48)]) s : Nat))) (by omega) (.slice none 0 0)
          have u1 := boxed_keep_set (b := w.heap.size + 1 + 1 + 1) (boxed_keep_set (b := w.heap.size + 1 + 1) o1 (by omega) (.int .i64 (countS (ep ++ [(y0 - 48, y1, y2 - 48)]) s : Nat))) (by omega) (.slice none 0 0)
          have u2 := boxed_keep_set (b := w.heap.size + 1 + 1 + 1) (o2.set (.int .i64 (countS (ep ++ [(y0 - 48, y1, y2 - 48)]) s : Nat))) (by omega) (.slice none 0 0)
          have u3 := (boxed_keep_set (b := w.heap.size + 1 + 1) o3 (by omega) (.int .i64 (countS (ep ++ [(y0 - 48, y1, y2 - 48)]) s : Nat))).set (.slice none 0 0)
          have u4 := boxed_keep_set (b := w.heap.size + 1 + 1 + 1) (boxed_keep_set (b := w.heap.size + 1 + 1) o4 (by omega) (.int .i64 (countS (ep ++ [(y0 - 48, y1, y2 - 48)]) s : Nat))) (by omega) (.slice none 0 0)
          have hbw : Below w.heap.size W w4 := ((KA.out.mono hB1).trans hb2).trans (hbel4.mono (by have h1 := hb2.size; have h2 := KA.out.size; omega))
          exact ⟨(((keepsOthers_of_below KA.out).trans hk2).trans ((keepsOthers_of_below hbel4).trans ((KeepsOthers.setCell _ _ _).trans (KeepsOthers.setCell _ _ _)))).from _, Eq.trans u4 hb4.symm,
            ⟨_, _, _, HSN.out, u0, u1, u2, u3, World.ownsRow_nil _ _ _ _, u4⟩, (((hB.trans hbw).setCell (p := ⟨w.heap.size + 1 + 1, 0, none⟩) (by simp; omega) _).setCell (p := ⟨w.heap.size + 1 + 1 + 1, 0, none⟩) (by simp; omega) _)⟩
        · have h33B : ((((xv : Int) + 1) % 3) == 0) = false := by simp; omega
          gi_wp2_with (first
            | (refine ⟨trivial, ?_⟩; gi_at_call 41; refine (CallsIn.inRound l (callsIn_wide.2 (has_is true s hs128 _ _ HHAS.out))).mono ?_; rintro e w' ⟨rfl, rfl⟩)
            | (gi_at_builtin; go_must (refine wpListIn_append_own _ rfl _ _ 83 rfl w.heap.size 88 i0 (.agg #[.int .i64 0, .int .u8 0, .int .i64 0]) 3 24 Try.underlying83 hi hz0 hz1 hz2 rfl (by decide) _ _ _ rfl (World.ownsRow.alloc HKV.out _) ⟨W1.heap.size + 1, 0, none⟩ 1 1 [.int .i64 ((y0 : Int) - 48), .int .u8 (y1 : Int), .int .i64 ((y2 : Int) - 48)] rfl rfl HNEWS.out (by simp [Value.oneCell']) (by unfold maxLen; omega) (by omega) (by simp; omega) ?_); intro v' w1 hown' hgrow _; obtain ⟨g', cap', rfl⟩ := ownsRow_succ hown'; obtain ⟨hv1, hv2, hr2, hk2, hb2⟩ := HK3.out.appended (by decide) HKV.out (by omega) (by omega) hown' hgrow; have hc1 := hv1.cell; have hf1 := hv1.frozen; have j0 := (k0.alloc _).kept hgrow (k0.not_row (by decide) HKV.out); have j1 := (k1.alloc _).kept hgrow (k1.not_row (by decide) HKV.out); have j2 := (k2.alloc _).kept hgrow (k2.not_row (by decide) HKV.out); have j4 := (k4.alloc _).kept hgrow (k4.not_row (by decide) HKV.out); have jc2 := j2.cell))
          rw [if_neg h33] at HSN
          have n0 := boxed_keep_set (b := w.heap.size + 1 + 1 + 1) j0 (by omega) (.slice (some ⟨g', 0, none⟩) (ep.length + 1) cap')
          have n1 := boxed_keep_set (b := w.heap.size + 1 + 1 + 1) j1 (by omega) (.slice (some ⟨g', 0, none⟩) (ep.length + 1) cap')
          have n2 := boxed_keep_set (b := w.heap.size + 1 + 1 + 1) j2 (by omega) (.slice (some ⟨g', 0, none⟩) (ep.length + 1) cap')
          have n4 := boxed_keep_set (b := w.heap.size + 1 + 1 + 1) j4 (by omega) (.slice (some ⟨g', 0, none⟩) (ep.length + 1) cap')
          have hr3 : OwnBlks (w1.setCell ⟨w.heap.size + 1 + 1 + 1, 0, none⟩ (.slice (some ⟨g', 0, none⟩) (ep.length + 1) cap')) w.heap.size (.slice (some ⟨g', 0, none⟩) (ep.length + 1) cap') (ep ++ [(y0 - 48, y1, y2 - 48)]) := by
            unfold OwnBlks; rw [HCELLS.out, List.length_append]; exact hr2
          exact ⟨((keepsOthers_of_below KA.out).trans hk2).from _, Eq.trans n4 hb4.symm, ⟨_, _, _, HSN.out, n0, n1, n2, hv2, hr3, n4⟩, (hB.trans (KA.out.mono hB1)).trans hb2⟩
  case done =>
    rintro D ys W hD hys ⟨⟨s, ep, v, hrun, hb0, hb1, hb2, hb3, hv, hb4⟩, hB⟩ hK
    have hc0 := hb0.cell
    have hc1 := hb1.cell
    have hf0 := hb0.frozen
    have hf1 := hb1.frozen
    have hc2 := hb2.cell
    rw [hys, runC_range] at hrun
    have hmem : memTo c s0 m = some s := by
      cases h : memTo c s0 m with
      | none => rw [h] at hrun; cases hrun
      | some s' => rw [h] at hrun; simp at hrun; rw [hrun.1]
    have HMEM : Hid (chRes (memTo c s0 m) = .tuple #[.int .i64 (s : Int), .int .i64 0]) := by show _ = _; rw [hmem]; rfl
    clear hrun hmem
    gi_wp2
    have hK' := ((KeepsOthers.setCell W ⟨w.heap.size, 0, none⟩ (.int .i64 (s : Int))).trans (KeepsOthers.setCell _ ⟨w.heap.size + 1, 0, none⟩ (.int .i64 0))).same D _ hK rfl
    refine ⟨by simp, .inl ⟨_, _, rfl, run_takeDeferred hK', ?_⟩⟩
    have hb0' := boxed_keep_set (b := w.heap.size + 1) (hb0.set (.int .i64 (s : Int))) (by omega) (.int .i64 0)
    have hb1' := (boxed_keep_set (b := w.heap.size) hb1 (by omega) (.int .i64 (s : Int))).set (.int .i64 0)
    have hd0 := (boxed_put hb0' (.deferred none) hK' rfl).cell
    have hd1 := (boxed_put hb1' (.deferred none) hK' rfl).cell
    refine ⟨.tuple #[.int .i64 (s : Int), .int .i64 0], ?_, by rw [HMEM.out], ((hB.setCell (p := ⟨w.heap.size, 0, none⟩) (Nat.le_refl _) _).setCell (p := ⟨w.heap.size + 1, 0, none⟩) (by simp) _).trans (belowK_b (w := w) (Nat.le_refl _) _ D _ _ (by simp at hD; omega) hK' rfl rfl)⟩
    simp [results, Try.f22, go_sem, hd0, hd1]
  case stop =>
    rintro D cd pre W hD hpre ⟨⟨rfl, hnone, hb0, hb1⟩, hB⟩ hK
    have hmem : memTo c s0 m = none := by
      obtain ⟨r, hr⟩ := hpre
      have h2 := runC_none (r := r) hnone
      rw [hr, runC_range] at h2
      simpa using h2
    have HMEM : Hid (chRes (memTo c s0 m) = .tuple #[.int .i64 0, .int .i64 5]) := by show _ = _; rw [hmem]; rfl
    clear hmem
    have hc0 := (boxed_put hb0 (.deferred none) hK rfl).cell
    have hc1 := (boxed_put hb1 (.deferred none) hK rfl).cell
    gi_wp2
    refine ⟨by simp, .inl ⟨_, _, rfl, run_takeDeferred hK, ?_⟩⟩
    refine ⟨.tuple #[.int .i64 0, .int .i64 5], ?_, by rw [HMEM.out], hB.trans (belowK_b (w := w) (Nat.le_refl _) W D _ _ (by simp at hD; omega) hK rfl rfl)⟩
    simp [results, Try.f22, go_sem, hc0, hc1]
end Go.Proofs.Ytpecfjejfkcolaa
