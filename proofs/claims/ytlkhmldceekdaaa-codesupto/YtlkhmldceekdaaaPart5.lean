import Derived.Test.YtlkhmldceekdaaaPart4
import Derived.Deep.QuietTactic
import Derived.BigQuiet
import Derived.WalkSmall
/- chains.Members: the loop. -/
namespace Go.Proofs.Ytlkhmldceekdaaa
open Go.RowKit Go.Shelf
attribute [local go_sem] Oper.semAt_some
set_option linter.unusedVariables false

theorem cell_three_new (w : World) (a b c : Value) (t : TypeId) : ∀ j u, [a, b, c][j]? = some u → (w.alloc (.cells #[a, b, c] t)).cell? ((⟨w.heap.size, 0, none⟩ : Addr).add j) = some u := by
  intro j u hj
  match j, hj with
  | 0, hj => simp at hj; subst hj; simp [Addr.add]
  | 1, hj => simp at hj; subst hj; simp [Addr.add]
  | 2, hj => simp at hj; subst hj; simp [Addr.add]
  | n + 3, hj => simp at hj
theorem Try.info88 : (Try.prog.info? 88).map (fun i => (i.zero, i.size, i.bytes)) = some (some (.agg #[.int .i64 0, .int .u8 0, .int .i64 0]), 3, 24) := by kernel_rfl

/-- what stands between two rounds: the members and the epoch's blocks in their boxes -/
def MidC (B : Nat) (c : ByteArray) (s0 m : Nat) (pre : List (Fin m)) (W : World) : Prop :=
  ∃ s ep v, runC c s0 (pre.map Fin.val) = some (s, ep) ∧ Boxed W B 66 (.int .i64 0) ∧ Boxed W (B + 1) 46 (.int .i64 0) ∧ Boxed W (B + 1 + 1) 66 (.int .i64 (s : Int)) ∧ Boxed W (B + 1 + 1 + 1) 83 v ∧ OwnBlks W B v ep ∧ Boxed W (B + 1 + 1 + 1 + 1) 9 (.string c)
theorem midC_own (B : Nat) (c : ByteArray) (s0 m : Nat) : Own (MidC B c s0 m) := by
  rintro pre X Y row ⟨s, ep, v, h1, b0, b1, b2, b3, hv, hsz⟩ hg hr
  obtain ⟨v', hb', hv', rfl⟩ := holdsRow_own B (B + 1 + 1 + 1) 83 88 3 (fun _ : Unit => ep.length) (fun _ => rowCells ep) (fun _ u => u = v) () X Y row ⟨v, b3, hv, rfl⟩ hg hr
  exact ⟨s, ep, v', h1, boxed_own' _ _ (fun _ : Unit => _) () X Y row b0 hg hr, boxed_own' _ _ (fun _ : Unit => _) () X Y row b1 hg hr, boxed_own' _ _ (fun _ : Unit => _) () X Y row b2 hg hr, hb', hv', boxed_own' _ _ (fun _ : Unit => _) () X Y row hsz hg hr⟩
/-- behind a round that has returned -/
def EndC (B : Nat) (c : ByteArray) (s0 m : Nat) (pre : List (Fin m)) (W : World) : Prop :=
  runC c s0 (pre.map Fin.val) = none ∧ Boxed W B 66 (.int .i64 0) ∧ Boxed W (B + 1) 46 (.int .i64 5)
theorem endC_own (B : Nat) (c : ByteArray) (s0 m : Nat) : Own (EndC B c s0 m) := by
  rintro pre X Y row ⟨h1, b0, b1⟩ hg hr
  exact ⟨h1, boxed_own' _ _ (fun _ : Unit => _) () X Y row b0 hg hr, boxed_own' _ _ (fun _ : Unit => _) () X Y row b1 hg hr⟩

/-- what the call answers -/
def chRes : Option Nat → Value
  | none => .tuple #[.int .i64 0, .int .i64 5]
  | some s => .tuple #[.int .i64 (s : Int), .int .i64 0]

set_option maxRecDepth 100000 in
set_option maxHeartbeats 2000000 in
theorem chMembers_run (n : Nat) (c : ByteArray) (w : World) (h4 : 4 ≤ n) (h8 : n < 8) (h3 : c.size % 3 = 0) (h18 : c.size ≤ 18) :
    Calls Try.prog 22 #[.int .i64 (n : Int), .string c] w fun e w' => e = .returned (chRes (memTo c (firstS n) (c.size / 3))) ∧ Below w.heap.size w w' := by
  have hs0 := firstS_lt h8
  obtain ⟨m, hm⟩ : ∃ m, c.size / 3 = m := ⟨_, rfl⟩
  rw [hm]
  have HM := hide hm
  have hm6 : m ≤ 6 := by omega
  have h3B : (((c.size : Int) % 3) != 0) = false := by simp; omega
  obtain ⟨s0, hs0e⟩ : ∃ s0, firstS n = s0 := ⟨_, rfl⟩
  rw [hs0e] at hs0 ⊢
  have HS0 := hide hs0e
  have H3 := hide h3
  have hA : decide ((n : Int) < 4) = false := by simp; omega
  have hA2 : decide (7 < (n : Int)) = false := by simp; omega
  have hA3 : decide (6 < (m : Int)) = false := by simp; omega
  clear hm hs0e h3
  refine (callsIn_wide (n := 6)).1 ?_
  refine callsIn_of_wp_marks Try.func22 rfl trivial ?_ rfl
  simp only [Try.ntmps22, List.size_toArray, List.length_cons, List.length_nil, Nat.reduceAdd, Nat.reduceSub, Array.replicate_succ, Array.replicate_zero, List.push_toArray, List.append_toArray, List.nil_append, List.cons_append]
  gi_wp2_with (first
    | (refine ⟨trivial, ?_⟩; gi_at_call 37; refine (callsIn_wide.2 (blocks_is m c _ (by unfold maxLen; omega) HM.out)).mono ?_; rintro e w' ⟨rfl, rfl⟩)
    | (refine ⟨trivial, ?_⟩; gi_at_call 38; refine (callsIn_wide.2 (first_any n h8 _)).mono ?_; rintro e w' ⟨rfl, rfl⟩; rw [HS0.out])
    | (refine ⟨trivial, ?_⟩; gi_at_call 39; refine (callsIn_wide.2 (entries_any _ _)).mono ?_; rintro e w' ⟨rfl, rfl⟩))
  have b0 := Boxed.new w 66 (.int .i64 0)
  have b1 := Boxed.new (w.alloc (.cells #[.int .i64 0] 66)) 46 (.int .i64 0)
  have b2 := Boxed.new ((w.alloc (.cells #[.int .i64 0] 66)).alloc (.cells #[.int .i64 0] 46)) 66 (.int .i64 (s0 : Int))
  have b3 := Boxed.new (((w.alloc (.cells #[.int .i64 0] 66)).alloc (.cells #[.int .i64 0] 46)).alloc (.cells #[.int .i64 (s0 : Int)] 66)) 83 (.slice none 0 0)
  have b4 := Boxed.new ((((w.alloc (.cells #[.int .i64 0] 66)).alloc (.cells #[.int .i64 0] 46)).alloc (.cells #[.int .i64 (s0 : Int)] 66)).alloc (.cells #[.slice none 0 0] 83)) 9 (.string c)
  simp only [World.size_alloc] at b1 b2 b3 b4
  have hB0 : Below w.heap.size w (((((w.alloc (.cells #[.int .i64 0] 66)).alloc (.cells #[.int .i64 0] 46)).alloc (.cells #[.int .i64 (s0 : Int)] 66)).alloc (.cells #[.slice none 0 0] 83)).alloc (.cells #[.string c] 9)) := (((((Below.refl _ w).alloc (Nat.le_refl _) _).alloc (by simp) _).alloc (by simp; omega) _).alloc (by simp; omega) _).alloc (by simp; omega) _
  refine wpIn_rangeFunc_ownG rfl (by omega) (gf := 53) (lb := #[.pointer (some ⟨w.heap.size + 1 + 1 + 1 + 1, 0, none⟩)]) rfl trivial (enters_of Try.func53 (by kernel_rfl) rfl)
    (entries_stops 5 (by omega) (w.heap.size + 1 + 1 + 1 + 1) m c h18 HM.out _ b4) keepB_t (keepB_b (by simp)) (Below.refl _ _) (fun _ => rfl)
    (fun pre W => MidC w.heap.size c s0 m pre W ∧ Below w.heap.size w W)
    (fun cd pre W => (cd = .ret ∧ EndC w.heap.size c s0 m pre W) ∧ Below w.heap.size w W)
    (OwnFrom.and (Own.from (midC_own _ _ _ _) _) (ownFrom_below (Nat.le_refl _) (by simp; omega)))
    (fun cd => OwnFrom.and (Own.from (fun s A B row hs hg hr => ⟨hs.1, endC_own _ _ _ _ s A B row hs.2 hg hr⟩) _) (ownFrom_below (Nat.le_refl _) (by simp; omega)))
    ⟨⟨s0, [], .slice none 0 0, rfl, (((b0.alloc _).alloc _).alloc _).alloc _, ((b1.alloc _).alloc _).alloc _, (b2.alloc _).alloc _, b3.alloc _, World.ownsRow_nil _ _ _ _, b4⟩, hB0⟩
    (fun x => { tmps := #[.int .i64 (n : Int), .string c, undef, undef, .pointer (some ⟨w.heap.size, 0, none⟩), .pointer (some ⟨w.heap.size + 1, 0, none⟩), .pointer (some ⟨w.heap.size + 1 + 1, 0, none⟩), .pointer (some ⟨w.heap.size + 1 + 1 + 1, 0, none⟩), .int .i64 ((x.1 : Int) + 1), .string (c.extract (x.1 * 3) ((x.1 + 1) * 3)), undef, undef, .int .i64 (n : Int), .bool false, .bool false, .int .i64 (n : Int), .bool false, .bool false, .string c, .int .i64 (c.size : Int), .int .i64 ((c.size : Int) % 3), .bool false, .bool false, .string c, .int .i64 (m : Int), .bool false, .bool false, .int .i64 (n : Int), .int .i64 (s0 : Int), .string c, .func (.func 53) #[] #[.pointer (some ⟨w.heap.size + 1 + 1 + 1 + 1, 0, none⟩)], .int .i64 ((x.1 : Int) + 1), .string (c.extract (x.1 * 3) ((x.1 + 1) * 3)), undef, undef, undef, undef, undef, undef, undef, undef, undef, undef, undef, undef, undef, undef, undef, undef, undef, undef, undef, undef, undef, undef, undef, undef, undef], defers := [] }) ?assign ?body ?done ?stop
  case assign =>
    intro l x W K hK
    gi_wp2
    exact hK
  case body =>
    rintro l pre x W ⟨⟨s, ep, v, hrun, hb0, hb1, hb2, hb3, hv, hb4⟩, hB⟩ hlt
    obtain ⟨hs128, hepl, hepb⟩ := runC_facts hs0 _ s ep hrun
    rw [List.length_map] at hepl
    have hsn : runC c s0 ((pre ++ [x]).map Fin.val) = stepC c (some (s, ep)) x.1 := by
      rw [List.map_append, List.map_cons, List.map_nil, runC_snoc, hrun]
    have hx := x.2
    have hxs : (x.1 + 1) * 3 ≤ c.size := by have := HM.out; omega
    have hts : (c.extract (x.1 * 3) ((x.1 + 1) * 3)).size = 3 := by rw [ByteArray.size_extract]; omega
    have ht0 : byt (c.extract (x.1 * 3) ((x.1 + 1) * 3)) 0 = byt c (3 * x.1) := by rw [byt_extract c _ _ 0 (by omega) hxs]; congr 1; omega
    have ht1 : byt (c.extract (x.1 * 3) ((x.1 + 1) * 3)) 1 = byt c (3 * x.1 + 1) := by rw [byt_extract c _ _ 1 (by omega) hxs]; congr 1; omega
    have ht2 : byt (c.extract (x.1 * 3) ((x.1 + 1) * 3)) 2 = byt c (3 * x.1 + 2) := by rw [byt_extract c _ _ 2 (by omega) hxs]; congr 1; omega
    obtain ⟨t, hT⟩ : ∃ t, c.extract (x.1 * 3) ((x.1 + 1) * 3) = t := ⟨_, rfl⟩
    rw [hT] at hts ht0 ht1 ht2 ⊢
    have hokt : blkOk (byt t 0) (byt t 1) (byt t 2) = okAt c x.1 := by rw [ht0, ht1, ht2]; rfl
    have hbk : (blkAt c x.1) = (byt t 0 - 48, byt t 1, byt t 2 - 48) := by rw [ht0, ht1, ht2]; rfl
    simp only [stepC] at hsn
    rw [← hokt, ← ht0, hbk] at hsn
    obtain ⟨y0, hy0⟩ : ∃ y, byt t 0 = y := ⟨_, rfl⟩
    obtain ⟨y1, hy1⟩ : ∃ y, byt t 1 = y := ⟨_, rfl⟩
    obtain ⟨y2, hy2⟩ : ∃ y, byt t 2 = y := ⟨_, rfl⟩
    have hread := fun W' => read_any t W' hts
    rw [hy0, hy1, hy2] at hread hsn
    obtain ⟨xv, hxv⟩ : ∃ xv, x.1 = xv := ⟨_, rfl⟩
    rw [hxv] at hsn hx ⊢
    have HREAD := hide hread
    have HEPB := hide hepb
    have hc2 := hb2.cell
    have hc3 := hb3.cell
    have hblt := hb4.lt
    clear hT hts ht0 ht1 ht2 hokt hbk hy0 hy1 hy2 hxs hread hrun hxv hepb
    obtain ⟨b, hbe⟩ : ∃ b, blkOk y0 y1 y2 = b := ⟨_, rfl⟩
    have hy := fun h => blkOk_iff.1 (hbe.trans h)
    rw [hbe] at hsn
    have HBE := hide hbe
    clear hbe
    gi_wp2_with fail
    refine ⟨trivial, ?_⟩
    refine (CallsIn.inRound l (callsIn_wide.2 (HREAD.out _))).mono ?_
    rintro e W1 ⟨mk, sg, ab, ok, rfl, hok, hval, hbel⟩
    rw [HBE.out] at hok
    subst hok
    have hb01 := boxed_below hb0 hbel
    have hb11 := boxed_below hb1 hbel
    have hb21 := boxed_below hb2 hbel
    have hb31 := boxed_below hb3 hbel
    have hb41 := boxed_below hb4 hbel
    have hsz1 := hbel.size
    have hv1 := show OwnBlks W1 w.heap.size _ ep from ownsRow_below hv hbel
    have k0 := (hb01.alloc (.cells #[.int .i64 mk, .int .u8 sg, .int .i64 ab] 88))
    have k1 := (hb11.alloc (.cells #[.int .i64 mk, .int .u8 sg, .int .i64 ab] 88))
    have k2 := (hb21.alloc (.cells #[.int .i64 mk, .int .u8 sg, .int .i64 ab] 88))
    have k3 := (hb31.alloc (.cells #[.int .i64 mk, .int .u8 sg, .int .i64 ab] 88))
    have k4 := (hb41.alloc (.cells #[.int .i64 mk, .int .u8 sg, .int .i64 ab] 88))
    have kv := World.ownsRow.alloc hv1 (.cells #[.int .i64 mk, .int .u8 sg, .int .i64 ab] 88)
    have hbelA := (hbel.alloc hsz1 (.cells #[.int .i64 mk, .int .u8 sg, .int .i64 ab] 88))
    have q0 := hb01.cell
    have q1 := hb11.cell
    have q2 := hb21.cell
    have q3 := hb31.cell
    have r0 := hb01.frozen
    have r1 := hb11.frozen
    have r2 := hb21.frozen
    have r3 := hb31.frozen
    have p0 := k0.cell
    have p1 := k1.cell
    have p2 := k2.cell
    have p3 := k3.cell
    have f0 := k0.frozen
    have f1 := k1.frozen
    have f2 := k2.frozen
    have f3 := k3.frozen
    clear hc2 hc3 hbel
    cases ok with
    | false =>
      rw [if_neg (by simp)] at hsn
      have HSN := hide hsn
      clear hsn
      gi_wp2
      refine ⟨trivial, ?_⟩
      gi_wp2
      exact ⟨((keepsOthers_of_below hbelA).trans ((KeepsOthers.setCell _ _ _).trans (KeepsOthers.setCell _ _ _))).from _, ⟨rfl, HSN.out, boxed_keep_set (k0.set _) (by omega) _, (boxed_keep_set k1 (by omega) _).set _⟩, ((hB.trans (hbelA.mono hB.size)).setCell (p := ⟨w.heap.size, 0, none⟩) (Nat.le_refl _) _).setCell (p := ⟨w.heap.size + 1, 0, none⟩) (by simp) _⟩
    | true =>
      obtain ⟨rfl, rfl, rfl⟩ := hval rfl
      have hyb := hy rfl
      have hy0b : 48 ≤ y0 ∧ y0 ≤ 54 := ⟨hyb.1, hyb.2.1⟩
      have hhas : hasS s ((y0 : Int) - 48) = s.testBit (y0 - 48) := by
        have e : ((y0 : Int) - 48) = ((y0 - 48 : Nat) : Int) := by omega
        have h7 : ((y0 - 48 : Nat) : Int) < 7 := by omega
        rw [e]; simp only [hasS]
        rw [decide_eq_true (show (0 : Int) ≤ ((y0 - 48 : Nat) : Int) by omega), decide_eq_true h7, Int.toNat_natCast]; rfl
      clear hyb hy hval
      obtain ⟨bt, hbt⟩ : ∃ bt, s.testBit (y0 - 48) = bt := ⟨_, rfl⟩
      rw [hbt] at hsn hhas
      have HHAS := hide hhas
      clear hbt hhas
      cases bt with
      | false =>
        rw [if_neg (by simp)] at hsn
        have HSN := hide hsn
        clear hsn
        gi_wp2_with (refine ⟨trivial, ?_⟩; gi_at_call 41; refine (CallsIn.inRound l (callsIn_wide.2 (has_is false s hs128 _ _ HHAS.out))).mono ?_; rintro e w' ⟨rfl, rfl⟩)
        exact ⟨((keepsOthers_of_below hbelA).trans ((KeepsOthers.setCell _ _ _).trans (KeepsOthers.setCell _ _ _))).from _, ⟨rfl, HSN.out, boxed_keep_set (k0.set _) (by omega) _, (boxed_keep_set k1 (by omega) _).set _⟩, ((hB.trans (hbelA.mono hB.size)).setCell (p := ⟨w.heap.size, 0, none⟩) (Nat.le_refl _) _).setCell (p := ⟨w.heap.size + 1, 0, none⟩) (by simp) _⟩
      | true =>
        rw [if_pos ⟨rfl, rfl⟩] at hsn
        obtain ⟨i0, hi, hz0, hz1, hz2⟩ := info_parts Try.info88
        have hepx : ep.length ≤ 5 := by omega
        have ey0 : ((y0 : Int) - 48) = ((y0 - 48 : Nat) : Int) := by omega
        have hB1 := hB.size
        have hy2b : 48 ≤ y2 := by
          have h := (blkOk_iff.1 HBE.out).2.2
          omega
        have hcells : rowCells (ep ++ [(y0 - 48, y1, y2 - 48)]) = rowCells ep ++ [.int .i64 ((y0 : Int) - 48), .int .u8 (y1 : Int), .int .i64 ((y2 : Int) - 48)] := by
          rw [rowCells_snoc]
          have e2 : ((y2 : Int) - 48) = ((y2 - 48 : Nat) : Int) := by omega
          rw [ey0, e2]; rfl
        have HCELLS := hide hcells
        have hepb2 : ∀ b ∈ ep ++ [(y0 - 48, y1, y2 - 48)], b.1 < 7 := by
          intro b hb
          rcases List.mem_append.1 hb with h | h
          · exact HEPB.out b h
          · simp at h; rw [h]; show y0 - 48 < 7; omega
        have HEPB2 := hide hepb2
        have HSN := hide hsn
        have HKV := hide kv
        have HK3 := hide k3
        have KA : Hid (Below W.heap.size W (W1.alloc (.cells #[.int .i64 ((y0 : Int) - 48), .int .u8 (y1 : Int), .int .i64 ((y2 : Int) - 48)] 88))) := hbelA
        clear hcells hepb2 hsn ey0 q0 q1 q2 q3 r0 r1 r2 r3 f0 f1 f2 p0 p1 hb01 hb11 hb21 hb31 hv1 hbelA
        have hW2 : (W1.alloc (.cells #[.int .i64 ((y0 : Int) - 48), .int .u8 (y1 : Int), .int .i64 ((y2 : Int) - 48)] 88)).heap.size = W1.heap.size + 1 := by simp
        have hnews := cell_three_new (W1.alloc (.cells #[.int .i64 ((y0 : Int) - 48), .int .u8 (y1 : Int), .int .i64 ((y2 : Int) - 48)] 88)) (.int .i64 ((y0 : Int) - 48)) (.int .u8 (y1 : Int)) (.int .i64 ((y2 : Int) - 48)) 88
        rw [hW2] at hnews
        have HNEWS := hide hnews
        clear hnews
        by_cases h33 : (xv + 1) % 3 = 0
        · have h33B : ((((xv : Int) + 1) % 3) == 0) = true := by simp; omega
          gi_wp2_with (first
            | (refine ⟨trivial, ?_⟩; gi_at_call 41; refine (CallsIn.inRound l (callsIn_wide.2 (has_is true s hs128 _ _ HHAS.out))).mono ?_; rintro e w' ⟨rfl, rfl⟩)
            | (gi_at_builtin; go_must (refine wpListIn_append_own _ rfl _ _ 83 rfl w.heap.size 88 i0 (.agg #[.int .i64 0, .int .u8 0, .int .i64 0]) 3 24 Try.underlying83 hi hz0 hz1 hz2 rfl (by decide) _ _ _ rfl (World.ownsRow.alloc HKV.out _) ⟨W1.heap.size + 1, 0, none⟩ 1 1 [.int .i64 ((y0 : Int) - 48), .int .u8 (y1 : Int), .int .i64 ((y2 : Int) - 48)] rfl rfl HNEWS.out (by simp [Value.oneCell']) (by unfold maxLen; omega) (by omega) (by simp; omega) ?_); intro v' w1 hown' hgrow _; obtain ⟨g', cap', rfl⟩ := ownsRow_succ hown'; obtain ⟨hv1, hv2, hr2, hk2, hb2⟩ := HK3.out.appended (by decide) HKV.out (by omega) (by omega) hown' hgrow; have hc1 := hv1.cell; have hf1 := hv1.frozen; have j0 := (k0.alloc _).kept hgrow (k0.not_row (by decide) HKV.out); have j1 := (k1.alloc _).kept hgrow (k1.not_row (by decide) HKV.out); have j2 := (k2.alloc _).kept hgrow (k2.not_row (by decide) HKV.out); have j4 := (k4.alloc _).kept hgrow (k4.not_row (by decide) HKV.out); have jc2 := j2.cell))
          have n0 := boxed_keep_set (b := w.heap.size + 1 + 1 + 1) j0 (by omega) (.slice (some ⟨g', 0, none⟩) (ep.length + 1) cap')
          have n1 := boxed_keep_set (b := w.heap.size + 1 + 1 + 1) j1 (by omega) (.slice (some ⟨g', 0, none⟩) (ep.length + 1) cap')
          have n2 := boxed_keep_set (b := w.heap.size + 1 + 1 + 1) j2 (by omega) (.slice (some ⟨g', 0, none⟩) (ep.length + 1) cap')
          have n4 := boxed_keep_set (b := w.heap.size + 1 + 1 + 1) j4 (by omega) (.slice (some ⟨g', 0, none⟩) (ep.length + 1) cap')
          have hr3 : OwnBlks (w1.setCell ⟨w.heap.size + 1 + 1 + 1, 0, none⟩ (.slice (some ⟨g', 0, none⟩) (ep.length + 1) cap')) w.heap.size (.slice (some ⟨g', 0, none⟩) (ep.length + 1) cap') (ep ++ [(y0 - 48, y1, y2 - 48)]) := by
            unfold OwnBlks; rw [HCELLS.out, List.length_append]; exact hr2
          refine ⟨trivial, ?_⟩
          refine (CallsIn.inRound l (callsIn_wide.2 (count_any (ep ++ [(y0 - 48, y1, y2 - 48)]) w.heap.size s _ _ hs128 hr3 HEPB2.out (by simp; omega)))).mono ?_
          rintro e w4 ⟨rfl, hbel4⟩
          have o0 := boxed_below n0 hbel4
          have o1 := boxed_below n1 hbel4
          have o2 := boxed_below n2 hbel4
          have o3 := boxed_below hv2 hbel4
          have o4 := boxed_below n4 hbel4
          have oc2 := o2.cell
          have of2 := o2.frozen
          have oc3 := o3.cell
          have of3 := o3.frozen
          rw [if_pos h33] at HSN
          gi_wp2
          have u0 := boxed_keep_set (b := w.heap.size + 1 + 1 + 1) (boxed_keep_set (b := w.heap.size + 1 + 1) o0 (by omega) (.int .i64 (countS (ep ++ [(y0 - 48, y1, y2 - 48)]) s : Nat))) (by omega) (.slice none 0 0)
          have u1 := boxed_keep_set (b := w.heap.size + 1 + 1 + 1) (boxed_keep_set (b := w.heap.size + 1 + 1) o1 (by omega) (.int .i64 (countS (ep ++ [(y0 - 48, y1, y2 - 48)]) s : Nat))) (by omega) (.slice none 0 0)
          have u2 := boxed_keep_set (b := w.heap.size + 1 + 1 + 1) (o2.set (.int .i64 (countS (ep ++ [(y0 - 48, y1, y2 - 48)]) s : Nat))) (by omega) (.slice none 0 0)
          have u3 := (boxed_keep_set (b := w.heap.size + 1 + 1) o3 (by omega) (.int .i64 (countS (ep ++ [(y0 - 48, y1, y2 - 48)]) s : Nat))).set (.slice none 0 0)
          have u4 := boxed_keep_set (b := w.heap.size + 1 + 1 + 1) (boxed_keep_set (b := w.heap.size + 1 + 1) o4 (by omega) (.int .i64 (countS (ep ++ [(y0 - 48, y1, y2 - 48)]) s : Nat))) (by omega) (.slice none 0 0)
          have hbw : Below w.heap.size W w4 := ((KA.out.mono hB1).trans hb2).trans (hbel4.mono (by have h1 := hb2.size; have h2 := KA.out.size; omega))
          exact ⟨(((keepsOthers_of_below KA.out).trans hk2).trans ((keepsOthers_of_below hbel4).trans ((KeepsOthers.setCell _ _ _).trans (KeepsOthers.setCell _ _ _)))).from _, Eq.trans u4 hb4.symm,
            ⟨_, _, _, HSN.out, u0, u1, u2, u3, World.ownsRow_nil _ _ _ _, u4⟩, (((hB.trans hbw).setCell (p := ⟨w.heap.size + 1 + 1, 0, none⟩) (by simp; omega) _).setCell (p := ⟨w.heap.size + 1 + 1 + 1, 0, none⟩) (by simp; omega) _)⟩
        · have h33B : ((((xv : Int) + 1) % 3) == 0) = false := by simp; omega
          gi_wp2_with (first
            | (refine ⟨trivial, ?_⟩; gi_at_call 41; refine (CallsIn.inRound l (callsIn_wide.2 (has_is true s hs128 _ _ HHAS.out))).mono ?_; rintro e w' ⟨rfl, rfl⟩)
            | (gi_at_builtin; go_must (refine wpListIn_append_own _ rfl _ _ 83 rfl w.heap.size 88 i0 (.agg #[.int .i64 0, .int .u8 0, .int .i64 0]) 3 24 Try.underlying83 hi hz0 hz1 hz2 rfl (by decide) _ _ _ rfl (World.ownsRow.alloc HKV.out _) ⟨W1.heap.size + 1, 0, none⟩ 1 1 [.int .i64 ((y0 : Int) - 48), .int .u8 (y1 : Int), .int .i64 ((y2 : Int) - 48)] rfl rfl HNEWS.out (by simp [Value.oneCell']) (by unfold maxLen; omega) (by omega) (by simp; omega) ?_); intro v' w1 hown' hgrow _; obtain ⟨g', cap', rfl⟩ := ownsRow_succ hown'; obtain ⟨hv1, hv2, hr2, hk2, hb2⟩ := HK3.out.appended (by decide) HKV.out (by omega) (by omega) hown' hgrow; have hc1 := hv1.cell; have hf1 := hv1.frozen; have j0 := (k0.alloc _).kept hgrow (k0.not_row (by decide) HKV.out); have j1 := (k1.alloc _).kept hgrow (k1.not_row (by decide) HKV.out); have j2 := (k2.alloc _).kept hgrow (k2.not_row (by decide) HKV.out); have j4 := (k4.alloc _).kept hgrow (k4.not_row (by decide) HKV.out); have jc2 := j2.cell))
          rw [if_neg h33] at HSN
          have n0 := boxed_keep_set (b := w.heap.size + 1 + 1 + 1) j0 (by omega) (.slice (some ⟨g', 0, none⟩) (ep.length + 1) cap')
          have n1 := boxed_keep_set (b := w.heap.size + 1 + 1 + 1) j1 (by omega) (.slice (some ⟨g', 0, none⟩) (ep.length + 1) cap')
          have n2 := boxed_keep_set (b := w.heap.size + 1 + 1 + 1) j2 (by omega) (.slice (some ⟨g', 0, none⟩) (ep.length + 1) cap')
          have n4 := boxed_keep_set (b := w.heap.size + 1 + 1 + 1) j4 (by omega) (.slice (some ⟨g', 0, none⟩) (ep.length + 1) cap')
          have hr3 : OwnBlks (w1.setCell ⟨w.heap.size + 1 + 1 + 1, 0, none⟩ (.slice (some ⟨g', 0, none⟩) (ep.length + 1) cap')) w.heap.size (.slice (some ⟨g', 0, none⟩) (ep.length + 1) cap') (ep ++ [(y0 - 48, y1, y2 - 48)]) := by
            unfold OwnBlks; rw [HCELLS.out, List.length_append]; exact hr2
          exact ⟨((keepsOthers_of_below KA.out).trans hk2).from _, Eq.trans n4 hb4.symm, ⟨_, _, _, HSN.out, n0, n1, n2, hv2, hr3, n4⟩, (hB.trans (KA.out.mono hB1)).trans hb2⟩
  case done =>
    rintro D ys W hD hys ⟨⟨s, ep, v, hrun, hb0, hb1, hb2, hb3, hv, hb4⟩, hB⟩ hK
    have hc0 := hb0.cell
    have hc1 := hb1.cell
    have hf0 := hb0.frozen
    have hf1 := hb1.frozen
    have hc2 := hb2.cell
    rw [hys, runC_range] at hrun
    have hmem : memTo c s0 m = some s := by
      cases h : memTo c s0 m with
      | none => rw [h] at hrun; cases hrun
      | some s' => rw [h] at hrun; simp at hrun; rw [hrun.1]
    have HMEM : Hid (chRes (memTo c s0 m) = .tuple #[.int .i64 (s : Int), .int .i64 0]) := by show _ = _; rw [hmem]; rfl
    clear hrun hmem
    gi_wp2
    have hK' := ((KeepsOthers.setCell W ⟨w.heap.size, 0, none⟩ (.int .i64 (s : Int))).trans (KeepsOthers.setCell _ ⟨w.heap.size + 1, 0, none⟩ (.int .i64 0))).same D _ hK rfl
    refine ⟨by simp, .inl ⟨_, _, rfl, run_takeDeferred hK', ?_⟩⟩
    have hb0' := boxed_keep_set (b := w.heap.size + 1) (hb0.set (.int .i64 (s : Int))) (by omega) (.int .i64 0)
    have hb1' := (boxed_keep_set (b := w.heap.size) hb1 (by omega) (.int .i64 (s : Int))).set (.int .i64 0)
    have hd0 := (boxed_put hb0' (.deferred none) hK' rfl).cell
    have hd1 := (boxed_put hb1' (.deferred none) hK' rfl).cell
    refine ⟨.tuple #[.int .i64 (s : Int), .int .i64 0], ?_, by rw [HMEM.out], ((hB.setCell (p := ⟨w.heap.size, 0, none⟩) (Nat.le_refl _) _).setCell (p := ⟨w.heap.size + 1, 0, none⟩) (by simp) _).trans (belowK_b (w := w) (Nat.le_refl _) _ D _ _ (by simp at hD; omega) hK' rfl rfl)⟩
    simp [results, Try.f22, go_sem, hd0, hd1]
  case stop =>
    rintro D cd pre W hD hpre ⟨⟨rfl, hnone, hb0, hb1⟩, hB⟩ hK
    have hmem : memTo c s0 m = none := by
      obtain ⟨r, hr⟩ := hpre
      have h2 := runC_none (r := r) hnone
      rw [hr, runC_range] at h2
      simpa using h2
    have HMEM : Hid (chRes (memTo c s0 m) = .tuple #[.int .i64 0, .int .i64 5]) := by show _ = _; rw [hmem]; rfl
    clear hmem
    have hc0 := (boxed_put hb0 (.deferred none) hK rfl).cell
    have hc1 := (boxed_put hb1 (.deferred none) hK rfl).cell
    gi_wp2
    refine ⟨by simp, .inl ⟨_, _, rfl, run_takeDeferred hK, ?_⟩⟩
    refine ⟨.tuple #[.int .i64 0, .int .i64 5], ?_, by rw [HMEM.out], hB.trans (belowK_b (w := w) (Nat.le_refl _) W D _ _ (by simp at hD; omega) hK rfl rfl)⟩
    simp [results, Try.f22, go_sem, hc0, hc1]
end Go.Proofs.Ytlkhmldceekdaaa

/- chains.Members in one word; chains.Leader, moot.Leader. -/
namespace Go.Proofs.Ytlkhmldceekdaaa
open Go.RowKit Go.Shelf
set_option linter.unusedVariables false

/-- chains.Members at a number of nodes that may be. -/
theorem chMembers_is (n : Nat) (c : ByteArray) (w : World) (h4 : 4 ≤ n) (h8 : n < 8) (hc : c.size ≤ maxLen) :
    Calls Try.prog 22 #[.int .i64 (n : Int), .string c] w fun e w' => e = .returned (chRes (members n c)) ∧ Below w.heap.size w w' := by
  unfold members
  by_cases h : c.size % 3 = 0 ∧ c.size ≤ 18
  · rw [if_pos h]; exact chMembers_run n c w h4 h8 h.1 h.2
  · rw [if_neg h]; exact chMembers_bad n c w h4 h8 hc h
theorem chMembers_some (n s : Nat) (c : ByteArray) (w : World) (h4 : 4 ≤ n) (h8 : n < 8) (hc : c.size ≤ maxLen) (h : members n c = some s) :
    Calls Try.prog 22 #[.int .i64 (n : Int), .string c] w fun e w' => e = .returned (.tuple #[.int .i64 (s : Int), .int .i64 0]) ∧ Below w.heap.size w w' := by
  have := chMembers_is n c w h4 h8 hc
  rw [h] at this
  exact this
theorem chMembers_none (n : Nat) (c : ByteArray) (w : World) (h4 : 4 ≤ n) (h8 : n < 8) (hc : c.size ≤ maxLen) (h : members n c = none) :
    Calls Try.prog 22 #[.int .i64 (n : Int), .string c] w fun e w' => e = .returned (.tuple #[.int .i64 0, .int .i64 5]) ∧ Below w.heap.size w w' := by
  have := chMembers_is n c w h4 h8 hc
  rw [h] at this
  exact this

/-- the members are four at least -/
theorem stepS_ge {bl : List Blk} {s i : Nat} (hs : s < 128) (hi : i < 7) (h : 4 ≤ sizeS s) : 4 ≤ sizeS (stepS bl s i) := by
  unfold stepS
  split
  · rw [sizeS_with hs hi]; omega
  · split
    · rename_i h2
      have := sizeS_without hs hi
      rw [h2.2.1] at this
      simp at this
      omega
    · exact h
theorem countTo_ge {bl : List Blk} {s : Nat} (hs : s < 128) (h : 4 ≤ sizeS s) : ∀ k, k ≤ 7 → 4 ≤ sizeS (countTo bl s k)
  | 0, _ => h
  | k + 1, hk => stepS_ge (countTo_lt hs k (by omega)) (by omega) (countTo_ge hs h k (by omega))
theorem memTo_ge {c : ByteArray} {s0 : Nat} (h0 : s0 < 128) (h : 4 ≤ sizeS s0) : ∀ k s, memTo c s0 k = some s → 4 ≤ sizeS s
  | 0, s, e => by simp [memTo] at e; rw [← e]; exact h
  | k + 1, s, e => by
    rw [memTo] at e
    cases hm : memTo c s0 k with
    | none => rw [hm] at e; cases e
    | some s' =>
      rw [hm] at e
      have i1 := memTo_lt h0 k s' hm
      have i2 := memTo_ge h0 h k s' hm
      simp only at e
      split at e
      · simp only [Option.some.injEq] at e
        rw [← e]
        split
        · exact countTo_ge i1 i2 7 (by omega)
        · exact i2
      · cases e
theorem members_ge {n : Nat} {c : ByteArray} {s : Nat} (h4 : 4 ≤ n) (h8 : n < 8) (h : members n c = some s) : 4 ≤ sizeS s := by
  unfold members at h
  split at h
  · refine memTo_ge (firstS_lt h8) ?_ _ _ h
    unfold sizeS; rw [listed_first h8, List.length_range]; exact h4
  · cases h
theorem members_size {n : Nat} {c : ByteArray} {s : Nat} (h : members n c = some s) : c.size ≤ 18 := by
  unfold members at h
  split at h
  · rename_i hc; exact hc.2
  · cases h

/-- what Leader answers -/
def leadRes (n r : Int) (c : ByteArray) : Int × Int :=
  if 4 ≤ n ∧ n ≤ 7 then
    match members n.toNat c with
    | none => (0, 5)
    | some s => if 0 ≤ r ∧ r ≤ 9 then (((leaderOf s (c.size / 3 + 1 + r.toNat) : Nat) : Int), 0) else (0, 4)
  else (0, 1)

theorem leadRes_cfg {n r : Int} {c : ByteArray} (h : ¬ (4 ≤ n ∧ n ≤ 7)) : leadRes n r c = (0, 1) := if_neg h
theorem leadRes_chain {m : Nat} {r : Int} {c : ByteArray} (h : 4 ≤ (m : Int) ∧ (m : Int) ≤ 7) (hm : members m c = none) : leadRes m r c = (0, 5) := by
  unfold leadRes
  rw [if_pos h, Int.toNat_natCast, hm]
theorem leadRes_step {m s : Nat} {r : Int} {c : ByteArray} (h : 4 ≤ (m : Int) ∧ (m : Int) ≤ 7) (hm : members m c = some s) (hr : ¬ (0 ≤ r ∧ r ≤ 9)) : leadRes m r c = (0, 4) := by
  unfold leadRes
  rw [if_pos h, Int.toNat_natCast, hm]
  exact if_neg hr
theorem leadRes_ok {m s : Nat} {r : Int} {c : ByteArray} (h : 4 ≤ (m : Int) ∧ (m : Int) ≤ 7) (hm : members m c = some s) (hr : 0 ≤ r ∧ r ≤ 9) : leadRes m r c = (((leaderOf s (c.size / 3 + 1 + r.toNat) : Nat) : Int), 0) := by
  unfold leadRes
  rw [if_pos h, Int.toNat_natCast, hm]
  exact if_pos hr
theorem ret_two {a b : Int} {p : Int × Int} (h : p = (a, b)) : Ending.returned (.tuple #[.int .i64 a, .int .i64 b]) = .returned (.tuple #[.int .i64 p.1, .int .i64 p.2]) := by rw [h]
theorem nodeAt_is (a : Nat) (p : Int) (s : Nat) (hs : s < 128) (hp0 : 0 ≤ p) (hp : p < sizeS s) (w : World) (h : (listed s).getD p.toNat 0 = a) :
    Calls Try.prog 61 #[.int .i64 (s : Int), .int .i64 p] w fun e w' => e = .returned (.int .i64 (a : Int)) ∧ Below w.heap.size w w' := by
  obtain ⟨q, rfl⟩ := Int.eq_ofNat_of_zero_le hp0
  rw [Int.toNat_natCast] at h
  rw [← h]; exact nodeAt_any s q hs (by omega) w

set_option maxHeartbeats 400000 in
theorem leaderOf_is (a s z : Nat) (h r : Int) (hs128 : s < 128) (hs4 : 4 ≤ z) (hs7 : z ≤ 7) (hz : sizeS s = z) (h0 : 0 ≤ h) (h9 : h ≤ 9) (hr0 : 0 ≤ r) (hr9 : r ≤ 9) (w : World)
    (hl : (listed s).getD ((h + r) % z).toNat 0 = a) :
    Calls Try.prog 45 #[.int .i64 (s : Int), .int .i64 h, .int .i64 r] w fun e w' => e = .returned (.int .i64 (a : Int)) ∧ Below w.heap.size w w' := by
  have hp0 : (0 : Int) ≤ (h + r) % z := Int.emod_nonneg _ (by omega)
  have hp1 : (h + r) % z < z := Int.emod_lt_of_pos _ (by omega)
  have HZ := hide hz
  have HL := hide hl
  clear hz hl
  go_enter Try.func45, Try.ntmps45
  go_wp2_with (go_at_call 23; refine (size_is z s hs128 _ HZ.out).mono ?_; rintro e w' ⟨rfl, rfl⟩)
  refine (nodeAt_is _ _ s hs128 hp0 (by rw [HZ.out]; exact hp1) _ HL.out).mono ?_
  rintro e w2 ⟨rfl, hb2⟩
  go_wp2
  go_ret
  exact ⟨rfl, hb2⟩

set_option maxRecDepth 100000 in
set_option maxHeartbeats 1000000 in
theorem chLeader_any (n r : Int) (c : ByteArray) (w : World) (hc : c.size ≤ maxLen) :
    Calls Try.prog 25 #[.int .i64 n, .string c, .int .i64 r] w fun e w' => e = .returned (.tuple #[.int .i64 (leadRes n r c).1, .int .i64 (leadRes n r c).2]) ∧ Below w.heap.size w w' := by
  by_cases hn : 4 ≤ n ∧ n ≤ 7
  · obtain ⟨m, rfl⟩ := Int.eq_ofNat_of_zero_le (show 0 ≤ n by omega)
    have h4 : 4 ≤ m := by omega
    have h8 : m < 8 := by omega
    cases hm : members m c with
    | none =>
      have HR := hide (leadRes_chain (r := r) hn hm)
      have HM := hide hm
      clear hm
      go_enter Try.func25, Try.ntmps25
      go_wp2_with (go_at_call 22; refine (chMembers_none m c _ h4 h8 hc HM.out).mono ?_; rintro e w' ⟨rfl, hb⟩)
      go_ret2
      exact ⟨ret_two HR.out, hb⟩
    | some s =>
      have hs128 := members_lt h8 hm
      have hs4 := members_ge h4 h8 hm
      have h18 := members_size hm
      have hs7 : sizeS s ≤ 7 := sizeS_le
      by_cases hr : 0 ≤ r ∧ r ≤ 9
      · have HR := hide (leadRes_ok hn hm hr)
        have HM := hide hm
        obtain ⟨z, hz⟩ : ∃ z, sizeS s = z := ⟨_, rfl⟩
        obtain ⟨bl, hbl⟩ : ∃ bl, c.size / 3 = bl := ⟨_, rfl⟩
        have hbl6 : bl ≤ 6 := by omega
        have HZ := hide hz
        have HBL := hide hbl
        rw [hz] at hs4 hs7
        have hz4 := hide hs4
        have hz7 := hide hs7
        have hl : Hid ((listed s).getD (((bl : Int) + 1 + r) % z).toNat 0 = leaderOf s (c.size / 3 + 1 + r.toNat)) := by
          show _ = _
          unfold leaderOf
          rw [hz, hbl]
          congr 1
          obtain ⟨q, rfl⟩ := Int.eq_ofNat_of_zero_le hr.1
          rw [Int.toNat_natCast]
          have e : ((bl : Int) + 1 + (q : Int)) % (z : Int) = (((bl + 1 + q) % z : Nat) : Int) := by simp
          rw [e, Int.toNat_natCast]
        obtain ⟨hr0, hr9⟩ := hr
        clear hm hz hbl
        go_enter Try.func25, Try.ntmps25
        go_wp2_with (first
          | (go_at_call 22; refine (chMembers_some m s c _ h4 h8 hc HM.out).mono ?_; rintro e w' ⟨rfl, hb⟩)
          | (go_at_call 37; refine (blocks_is bl c _ hc HBL.out).mono ?_; rintro e w' ⟨rfl, rfl⟩))
        refine (leaderOf_is _ s z ((bl : Int) + 1) r hs128 hz4.out hz7.out HZ.out (by omega) (by omega) hr0 hr9 _ hl.out).mono ?_
        rintro e w2 ⟨rfl, hb2⟩
        go_wp2
        go_ret2
        exact ⟨ret_two HR.out, hb.trans (hb2.mono hb.size)⟩
      · have HR := hide (leadRes_step hn hm hr)
        have HM := hide hm
        clear hm
        by_cases hr0 : r < 0
        · clear hr
          go_enter Try.func25, Try.ntmps25
          go_wp2_with (go_at_call 22; refine (chMembers_some m s c _ h4 h8 hc HM.out).mono ?_; rintro e w' ⟨rfl, hb⟩)
          go_ret2
          exact ⟨ret_two HR.out, hb⟩
        · have hr9 : 9 < r := by omega
          clear hr
          go_enter Try.func25, Try.ntmps25
          go_wp2_with (go_at_call 22; refine (chMembers_some m s c _ h4 h8 hc HM.out).mono ?_; rintro e w' ⟨rfl, hb⟩)
          go_ret2
          exact ⟨ret_two HR.out, hb⟩
  · have HR := hide (leadRes_cfg (r := r) (c := c) hn)
    have hn' : n < 4 ∨ 7 < n := by omega
    have HN := hide hn'
    clear hn hn'
    go_enter Try.func25, Try.ntmps25
    go_wp2_with (go_at_call 22; refine (chMembers_no n c _ HN.out).mono ?_; rintro e w' ⟨rfl, hb⟩)
    go_ret2
    exact ⟨ret_two HR.out, hb⟩

set_option maxHeartbeats 400000 in
theorem leader_any (n r : Int) (c : ByteArray) (w : World) (hc : c.size ≤ maxLen) :
    Calls Try.prog 10 #[.int .i64 n, .string c, .int .i64 r] w fun e w' => e = .returned (.tuple #[.int .i64 (leadRes n r c).1, .int .i64 (leadRes n r c).2]) ∧ Below w.heap.size w w' := by
  go_enter Try.func10, Try.ntmps10
  go_wp2_with (go_at_call 25; refine (chLeader_any n r c _ hc).mono ?_; rintro e w' ⟨rfl, hb⟩)
  go_ret2
  exact ⟨rfl, hb⟩
end Go.Proofs.Ytlkhmldceekdaaa

/- moot.Members. -/
namespace Go.Proofs.Ytlkhmldceekdaaa
open Go.RowKit Go.Shelf
attribute [local go_sem] Oper.semAt_some
set_option linter.unusedVariables false

/-- what Members answers: the members, if there are any; the error -/
def memO (n : Int) (c : ByteArray) : Option Nat := if 4 ≤ n ∧ n ≤ 7 then members n.toNat c else none
def memErr (n : Int) (c : ByteArray) : Int := if 4 ≤ n ∧ n ≤ 7 then (if (members n.toNat c).isSome then 0 else 5) else 1

def MemPost (n : Int) (c : ByteArray) (w : World) (e : Ending) (w' : World) : Prop :=
  ∃ v, e = .returned (.tuple #[v, .int .i64 (memErr n c)]) ∧ Below w.heap.size w w' ∧
    (∀ s, memO n c = some s → (∃ g, v = .slice (some ⟨g, 0, none⟩) (sizeS s) (sizeS s)) ∧ OwnInts w' w.heap.size v (listed s)) ∧ (memO n c = none → v = .slice none 0 0)

theorem tup_err {v : Value} {a b : Int} (h : a = b) : Ending.returned (.tuple #[v, .int .i64 a]) = .returned (.tuple #[v, .int .i64 b]) := by rw [h]
theorem members_cfg (n : Int) (c : ByteArray) (w : World) (hn : ¬ (4 ≤ n ∧ n ≤ 7)) : Calls Try.prog 9 #[.int .i64 n, .string c] w (MemPost n c w) := by
  have hn' : n < 4 ∨ 7 < n := by omega
  have HN := hide hn'
  have HE : Hid (memErr n c = 1) := if_neg hn
  have HO : Hid (memO n c = none) := if_neg hn
  clear hn hn'
  go_enter Try.func9, Try.ntmps9
  go_wp2_with (go_at_call 22; refine (chMembers_no n c _ HN.out).mono ?_; rintro e w' ⟨rfl, hb⟩)
  go_ret2
  exact ⟨_, tup_err HE.out.symm, hb, fun s h => (by rw [HO.out] at h; cases h), fun _ => rfl⟩
theorem members_chain (m : Nat) (c : ByteArray) (w : World) (h4 : 4 ≤ m) (h8 : m < 8) (hc : c.size ≤ maxLen) (h : members m c = none) : Calls Try.prog 9 #[.int .i64 (m : Int), .string c] w (MemPost m c w) := by
  have hn : 4 ≤ (m : Int) ∧ (m : Int) ≤ 7 := by omega
  have HM := hide h
  have HE : Hid (memErr m c = 5) := by
    show _ = _
    unfold memErr; rw [if_pos hn, Int.toNat_natCast, h]; rfl
  have HO : Hid (memO m c = none) := by
    show _ = _
    unfold memO; rw [if_pos hn, Int.toNat_natCast, h]
  clear hn h
  go_enter Try.func9, Try.ntmps9
  go_wp2_with (go_at_call 22; refine (chMembers_none m c _ h4 h8 hc HM.out).mono ?_; rintro e w' ⟨rfl, hb⟩)
  go_ret2
  exact ⟨_, tup_err HE.out.symm, hb, fun s h => (by rw [HO.out] at h; cases h), fun _ => rfl⟩

/-- between two rounds: what has been gathered -/
def MidM (n₀ g Bx z s : Nat) (pre : List (Fin 7)) (W : World) : Prop :=
  (∃ v, Boxed W Bx 45 v ∧ W.ownsRow n₀ 3 1 v pre.length ((castL (pre.map Fin.val)).map (Value.int .i64)) ∧ v = .slice (some ⟨g, 0, none⟩) pre.length z) ∧ Boxed W (Bx + 1) 66 (.int .i64 (s : Int))
theorem midM_own (n₀ g Bx z s : Nat) : Own (MidM n₀ g Bx z s) := by
  rintro pre X Y row ⟨h1, h2⟩ hg hr
  exact ⟨holdsRow_own n₀ Bx 45 3 1 (fun pre : List (Fin 7) => pre.length) (fun pre => (castL (pre.map Fin.val)).map (Value.int .i64)) (fun pre v => v = .slice (some ⟨g, 0, none⟩) pre.length z) pre X Y row h1 hg hr, boxed_own' _ _ (fun _ : Unit => _) () X Y row h2 hg hr⟩

set_option maxRecDepth 100000 in
set_option maxHeartbeats 2000000 in
theorem members_ok (m s : Nat) (c : ByteArray) (w : World) (h4 : 4 ≤ m) (h8 : m < 8) (hc : c.size ≤ maxLen) (h : members m c = some s) : Calls Try.prog 9 #[.int .i64 (m : Int), .string c] w (MemPost m c w) := by
  have hn : 4 ≤ (m : Int) ∧ (m : Int) ≤ 7 := by omega
  have HM := hide h
  have HE : Hid (memErr m c = 0) := by
    show _ = _
    unfold memErr; rw [if_pos hn, Int.toNat_natCast, h]; rfl
  have HO : Hid (memO m c = some s) := by
    show _ = _
    unfold memO; rw [if_pos hn, Int.toNat_natCast, h]
  have hs128 := members_lt h8 h
  have hs7 : sizeS s ≤ 7 := sizeS_le
  obtain ⟨z, hz⟩ : ∃ z, sizeS s = z := ⟨_, rfl⟩
  have HZ := hide hz
  rw [hz] at hs7
  clear hn h hz
  obtain ⟨i0, hi, hz0, hz1, hz2⟩ := info_parts Try.info3
  refine (callsIn_wide (n := 6)).1 ?_
  refine callsIn_of_wp_marks Try.func9 rfl trivial ?_ rfl
  simp only [Try.ntmps9, List.size_toArray, List.length_cons, List.length_nil, Nat.reduceAdd, Nat.reduceSub, Array.replicate_succ, Array.replicate_zero, List.push_toArray, List.append_toArray, List.nil_append, List.cons_append]
  gi_wp2_with (first
    | (refine ⟨trivial, ?_⟩; gi_at_call 22; refine (callsIn_wide.2 (chMembers_some m s c _ h4 h8 hc HM.out)).mono ?_; rintro e w1 ⟨rfl, hb1⟩)
    | (refine ⟨trivial, ?_⟩; gi_at_call 23; refine (callsIn_wide.2 (size_is z s hs128 _ HZ.out)).mono ?_; rintro e w' ⟨rfl, rfl⟩)
    | (gi_at_make; refine wpListIn_make_own _ rfl _ _ 45 rfl w.heap.size 3 i0 (.int .i64 0) 1 Try.underlying45 hi hz0 hz1 .i64 .i64 _ z rfl rfl rfl (by rw [hz2]; omega) (by unfold maxLen; omega) (by exact hb1.size) ?_; intro w2 hown0 hgrow0)
    | (refine ⟨trivial, ?_⟩; gi_at_call 24; refine (callsIn_wide.2 (nodes_any _ _)).mono ?_; rintro e w' ⟨rfl, rfl⟩))
  have hsz1 := hb1.size
  have hsz2 := hgrow0.size
  have hb2 : Below w.heap.size w w2 := hb1.grown hgrow0 hsz1 (fun k e => by cases e)
  have b0 := Boxed.new w2 45 (.slice (some ⟨w'.heap.size, 0, none⟩) 0 z)
  have b1 := Boxed.new (w2.alloc (.cells #[.slice (some ⟨w'.heap.size, 0, none⟩) 0 z] 45)) 66 (.int .i64 (s : Int))
  simp only [World.size_alloc] at b1
  have hB0 : Below w.heap.size w ((w2.alloc (.cells #[.slice (some ⟨w'.heap.size, 0, none⟩) 0 z] 45)).alloc (.cells #[.int .i64 (s : Int)] 66)) := (hb2.alloc (by omega) _).alloc (by simp; omega) _
  refine wpIn_rangeFunc_ownG rfl (by omega) (gf := 44) (lb := #[.pointer (some ⟨w2.heap.size + 1, 0, none⟩)]) rfl trivial (enters_of Try.func44 (by kernel_rfl) rfl)
    (nodes_stops 5 (by omega) (w2.heap.size + 1) s hs128 _ b1) keepB_t (keepB_b (by simp)) (Below.refl _ _) (fun _ => rfl)
    (fun pre W => MidM w.heap.size w'.heap.size w2.heap.size z s pre W ∧ Below w.heap.size w W)
    (fun _ _ _ => False)
    (OwnFrom.and (Own.from (midM_own _ _ _ _ _) _) (ownFrom_below (Nat.le_refl _) (by simp; omega)))
    (fun _ _ _ _ _ hs _ _ => hs)
    ⟨⟨⟨_, b0.alloc _, World.ownsRow.alloc (World.ownsRow.alloc hown0 _) _, rfl⟩, b1⟩, hB0⟩
    (fun x => { tmps := #[.int .i64 (m : Int), .string c, undef, undef, .slice none 0 0, .int .i64 0, .int .i64 (s : Int), .int .i64 0, .pointer (some ⟨w2.heap.size, 0, none⟩), .int .i64 (x.1 : Int), .tuple #[.int .i64 (s : Int), .int .i64 0], .int .i64 (m : Int), .string c, .tuple #[.int .i64 (s : Int), .int .i64 0], .int .i64 (s : Int), .int .i64 0, .int .i64 0, .bool false, undef, .int .i64 (s : Int), .int .i64 (z : Int), .slice (some ⟨w'.heap.size, 0, none⟩) 0 z, .int .i64 (s : Int), .func (.func 44) #[] #[.pointer (some ⟨w2.heap.size + 1, 0, none⟩)], .int .i64 (x.1 : Int), undef, undef, undef, undef, undef], defers := [] }) ?assign ?body ?done ?stop
  case assign =>
    intro l x W K hK
    gi_wp2
    exact hK
  case body =>
    rintro l pre x W ⟨⟨⟨v, hv, hrow, rfl⟩, hbs⟩, hB⟩ hlt
    rw [HZ.out] at hlt
    have hc := hv.cell
    have hB1 := hB.size
    have hsn : castL ((pre ++ [x]).map Fin.val) = castL (pre.map Fin.val) ++ [(x.1 : Int)] := by rw [List.map_append, List.map_cons, List.map_nil, castL_snoc]
    have HSN := hide hsn
    clear hsn
    gi_wp2_with (gi_at_builtin; refine wpListIn_append_fits _ rfl _ _ 45 rfl w.heap.size 3 i0 1 Try.underlying45 hi hz1 w'.heap.size pre.length z _ rfl (World.ownsRow.alloc hrow _) ⟨W.heap.size, 0, none⟩ 1 1 [.int .i64 (x.1 : Int)] rfl rfl (cell_one_new _ _ _) (by simp [Value.oneCell']) (by omega) ?_; intro w1 hown' hgrow; obtain ⟨hv1, hv2, hr2, hk2, hb2⟩ := hv.appended (by decide) hrow hB1 (by omega) hown' hgrow; have hc1 := hv1.cell; have hf1 := hv1.frozen; have j4 := (hbs.alloc _).kept hgrow (hbs.not_row (by decide) hrow))
    have n4 := boxed_keep_set (b := w2.heap.size) j4 (by omega) (.slice (some ⟨w'.heap.size, 0, none⟩) (pre.length + 1) z)
    exact ⟨hk2.from _, Eq.trans n4 hbs.symm, ⟨⟨_, hv2, by rw [HSN.out]; simpa using hr2, by simp⟩, n4⟩, hB.trans hb2⟩
  case done =>
    rintro D ys W hD hys ⟨⟨⟨v, hv, hrow, rfl⟩, hbs⟩, hB⟩ hK
    have hlen : ys.length = z := by
      have h1 := congrArg List.length hys
      rw [List.length_map] at h1
      exact h1.trans HZ.out
    rw [hlen] at hv hrow
    rw [hys] at hrow
    have hc := hv.cell
    gi_wp2
    refine ⟨by simp, .inl ⟨_, _, rfl, run_takeDeferred hK, ?_⟩⟩
    refine ⟨.tuple #[.slice (some ⟨w'.heap.size, 0, none⟩) z z, .int .i64 0], ?_, _, tup_err HE.out.symm, hB.trans (belowK_b (w := w) (Nat.le_refl _) W D _ _ (by simp at hD; omega) hK rfl rfl), ?_, ?_⟩
    · simp [results, Try.f9, go_sem]
    · intro s' hs'
      rw [HO.out] at hs'
      cases hs'
      refine ⟨⟨w'.heap.size, by rw [HZ.out]⟩, ?_⟩
      have h2 := ownsRow_putObj hrow (.deferred none) hK rfl
      unfold OwnInts
      rw [castL_len, show (listed s).length = z from HZ.out]
      exact h2
    · intro h; rw [HO.out] at h; cases h
  case stop =>
    rintro D c pre W _ _ h _
    exact h.elim

theorem members_any (n : Int) (c : ByteArray) (w : World) (hc : c.size ≤ maxLen) : Calls Try.prog 9 #[.int .i64 n, .string c] w (MemPost n c w) := by
  by_cases hn : 4 ≤ n ∧ n ≤ 7
  · obtain ⟨m, rfl⟩ := Int.eq_ofNat_of_zero_le (show 0 ≤ n by omega)
    cases h : members m c with
    | none => exact members_chain m c w (by omega) (by omega) hc h
    | some s => exact members_ok m s c w (by omega) (by omega) hc h
  · exact members_cfg n c w hn
end Go.Proofs.Ytlkhmldceekdaaa

/- The law's book: what lists lie in it; sameInts, stays. -/
namespace Go.Proofs.Ytlkhmldceekdaaa
open Go.RowKit Go.Shelf
set_option linter.unusedVariables false

/-- a list of n numbers x, its array below block 'top' -/
def Marked (w : World) (top : Nat) (v : Value) (x : Int) : Prop :=
  ∃ n, w.ownsRow 0 3 1 v n (List.replicate n (.int .i64 x)) ∧ n ≤ 1000 ∧ ∀ g, v.ownBlock = some g → g < top
theorem Marked.slice {w : World} {top : Nat} {v : Value} {x : Int} (h : Marked w top v x) : ∃ ao n cap, v = .slice ao n cap ∧ n ≤ 1000 ∧ (0 < n → ∃ g, ao = some ⟨g, 0, none⟩ ∧ ∀ j, j < n → w.cell? ⟨g, j, none⟩ = some (.int .i64 x)) := by
  obtain ⟨n, hown, hn, _⟩ := h
  have h2 := hown
  rcases hown.2 with ⟨rfl, h0⟩ | ⟨g, cap, cur, rfl, _⟩
  · exact ⟨none, 0, 0, rfl, by omega, fun h => by omega⟩
  · refine ⟨_, n, cap, rfl, hn, fun _ => ⟨g, rfl, fun j hj => ?_⟩⟩
    rw [h2.cellAt j (by omega)]
    simp [hj]
theorem Marked.mono {w : World} {top top' : Nat} {v : Value} {x : Int} (h : Marked w top v x) (ht : top ≤ top') : Marked w top' v x := by
  obtain ⟨n, h1, h2, h3⟩ := h
  exact ⟨n, h1, h2, fun g hg => Nat.lt_of_lt_of_le (h3 g hg) ht⟩
theorem Marked.kept {w w' : World} {top : Nat} {v : Value} {x : Int} {row : Option Nat} (h : Marked w top v x) (hg : w.grownBy w' row) (hne : v.ownBlock = none ∨ v.ownBlock ≠ row) : Marked w' top v x := by
  obtain ⟨n, h1, h2, h3⟩ := h
  exact ⟨n, h1.kept hg hne, h2, h3⟩

/-- the mark of a place -/
def markOf (i : Nat) : Int := -1 - ((i / 4 * 4 : Nat) : Int)

/-- THE BOOK (its lists of numbers; of the others there are none): block K; its own row from 'base' on; the lists' arrays below 'top'. -/
structure BookI (w : World) (K base top : Nat) (L : List Value) : Prop where
  book : ∃ kv, w.heap[K]? = some (.cells #[kv, .slice none 0 0, .slice none 0 0] 28 (0, 0)) ∧ w.ownsRow base 45 1 kv L.length L
  lists : ∀ i (h : i < L.length), Marked w top L[i] (markOf i)
  top_le : top ≤ w.heap.size

theorem grownBy_below {w w' : World} (h : Below w.heap.size w w') : w.grownBy w' none := ⟨h.os, h.tape, h.output, h.size, fun k hk _ => h.block k hk⟩
theorem BookI.below {w w' : World} {K base top : Nat} {L : List Value} (h : BookI w K base top L) (hb : Below w.heap.size w w') : BookI w' K base top L := by
  obtain ⟨⟨kv, h1, h2⟩, h3, h4⟩ := h
  refine ⟨⟨kv, (hb.block K (lt_of_block h1)).trans h1, ownsRow_below h2 hb⟩, fun i hi => (h3 i hi).kept (grownBy_below hb) ?_, Nat.le_trans h4 hb.size⟩
  cases hv : (L[i]).ownBlock with
  | none => exact .inl rfl
  | some g => exact .inr (by simp)
theorem BookI.top_mono {w : World} {K base top top' : Nat} {L : List Value} (h : BookI w K base top L) (ht : top ≤ top') (hw : top' ≤ w.heap.size) : BookI w K base top' L :=
  ⟨h.book, fun i hi => (h.lists i hi).mono ht, hw⟩

theorem below_drewN' (w : World) (n : Nat) : Below w.heap.size w (w.drewN n) := below_drewN (Below.refl _ w) n

set_option maxRecDepth 100000 in
set_option maxHeartbeats 1000000 in
theorem sameInts_same (l : List Int) (a b : Value) (w : World) (ha : Ints w a l) (hb : Ints w b l) (hl : l.length ≤ 1000) :
    Calls Try.prog 13 #[a, b] w fun e w' => e = .returned (.bool true) ∧ Below w.heap.size w w' := by
  by_cases h0 : l.length = 0
  · have e : l = [] := List.length_eq_zero_iff.1 h0
    subst e
    have fa : ∃ ao ca, a = .slice ao 0 ca := by
      rcases ha with ⟨_, rfl⟩ | ⟨g, cap, rfl, _⟩
      · exact ⟨_, _, rfl⟩
      · exact ⟨_, _, rfl⟩
    have fb : ∃ ao ca, b = .slice ao 0 ca := by
      rcases hb with ⟨_, rfl⟩ | ⟨g, cap, rfl, _⟩
      · exact ⟨_, _, rfl⟩
      · exact ⟨_, _, rfl⟩
    obtain ⟨ao, ca, rfl⟩ := fa
    obtain ⟨bo, cb, rfl⟩ := fb
    clear ha hb
    go_enter Try.func13, Try.ntmps13
    go_wp2
    refine wp_loop_rounds 1 ?_
    rw [rounds_succ]
    go_wp2
    go_ret
    exact ⟨rfl, Below.refl _ _⟩
  · rcases ha with ⟨rfl, _⟩ | ⟨g, cap, rfl, hca⟩
    · simp at h0
    rcases hb with ⟨rfl, _⟩ | ⟨g2, cap2, rfl, hcb⟩
    · simp at h0
    have HA := hide hca
    have HB := hide hcb
    clear hca hcb
    go_enter Try.func13, Try.ntmps13
    go_wp2
    go_loopw [5] (fun i wr => ∃ (k n : Nat), k ≤ l.length ∧ i = .int .i64 (k : Int) ∧ wr = w.drewN n) (fun i _ => l.length - (intOf i).toNat)
    case atStart => exact ⟨0, 0, by omega, rfl, rfl⟩
    case round =>
      obtain ⟨k, n, hk, rfl, rfl⟩ := hrel
      by_cases hlt : k < l.length
      · have ca := HA.out k hlt
        have cb := HB.out k hlt
        obtain ⟨x, hx⟩ : ∃ x, l.getD k 0 = x := ⟨_, rfl⟩
        rw [hx] at ca cb
        clear hx
        have i0 : (0 : Int) ≤ (k : Int) := by omega
        have i1 : (k : Int) < (l.length : Int) := by omega
        go_wp2
        go_quiet (fail)
        go_wp2
        go_roundw
        case rel => exact ⟨k + 1, n + nq, by omega, by go_num, rfl⟩
        case measure => simp [intOf]; omega
      · go_wp2
        go_ret
        exact ⟨rfl, below_drewN' _ _⟩
end Go.Proofs.Ytlkhmldceekdaaa

/- The law's stays, where the book holds lists of numbers alone. -/
namespace Go.Proofs.Ytlkhmldceekdaaa
open Go.RowKit Go.Shelf
set_option linter.unusedVariables false

theorem cells_of_three {w : World} {b : Nat} {x y z : Value} {t : TypeId} (h : w.heap[b]? = some (.cells #[x, y, z] t (0, 0))) :
    w.cell? ⟨b, 0, none⟩ = some x ∧ w.cell? ⟨b, 1, none⟩ = some y ∧ w.cell? ⟨b, 2, none⟩ = some z := by
  refine ⟨?_, ?_, ?_⟩ <;> simp [World.cell?, h]
theorem row_slice {w : World} {base : Nat} {e : TypeId} {v : Value} {L : List Value} (h : w.ownsRow base e 1 v L.length L) :
    ∃ ao cap, v = .slice ao L.length cap ∧ (0 < L.length → ∃ R, ao = some ⟨R, 0, none⟩ ∧ ∀ i (hi : i < L.length), w.cell? ⟨R, i, none⟩ = some L[i]) := by
  have h' := h
  rcases h.2 with ⟨rfl, h0⟩ | ⟨g, cap, cur, rfl, _⟩
  · exact ⟨none, 0, by rw [h0], fun h => by omega⟩
  · refine ⟨_, cap, rfl, fun _ => ⟨g, rfl, fun i hi => ?_⟩⟩
    rw [h'.cellAt i (by omega), List.getElem?_eq_getElem hi]

set_option maxRecDepth 100000 in
set_option maxHeartbeats 1000000 in
theorem staysI_any (K base top : Nat) (L : List Value) (w : World) (hk : BookI w K base top L) (hL : L.length ≤ 100000000) :
    Calls Try.prog 8 #[.pointer (some ⟨K, 0, none⟩)] w fun e w' => e = .returned (.bool true) ∧ w' = w := by
  obtain ⟨⟨kv, hb, hrow⟩, hlists, _⟩ := hk
  obtain ⟨c0, c1, c2⟩ := cells_of_three hb
  obtain ⟨ao, cap, rfl, hcells⟩ := row_slice hrow
  have HC := hide hcells
  have HL := hide hlists
  clear hcells hlists hrow hb
  go_enter Try.func8, Try.ntmps8
  go_wp2
  go_loop [3] (fun i => ∃ k : Nat, k ≤ L.length ∧ i = .int .i64 (k : Int)) (fun i => L.length - (intOf i).toNat)
  case atStart => exact ⟨0, by omega, rfl⟩
  case round =>
    obtain ⟨k, hk, rfl⟩ := hrel
    by_cases hlt : k < L.length
    · obtain ⟨R, rfl, hcell⟩ := HC.out (by omega)
      have ck := hcell k hlt
      obtain ⟨ao2, n, cap2, hv, hn, hel⟩ := (HL.out k hlt).slice
      rw [hv] at ck
      have HEL := hide hel
      clear hcell hel
      have hkB : decide ((k : Int) < (L.length : Int)) = true := by simp; omega
      go_wp2
      go_loop [4] (fun i => ∃ j : Nat, j ≤ n ∧ i = .int .i64 (j : Int)) (fun i => n - (intOf i).toNat)
      case atStart => exact ⟨0, by omega, rfl⟩
      case round =>
        obtain ⟨j, hj, rfl⟩ := hrel
        by_cases hjl : j < n
        · obtain ⟨g, rfl, hcj⟩ := HEL.out (by omega)
          have cj := hcj j hjl
          have hx : markOf k = -1 - (k : Int) / 4 * 4 := by unfold markOf; simp
          rw [hx] at cj
          clear hx hcj
          go_wp2
          go_round
          case rel => exact ⟨j + 1, by omega, by go_num⟩
          case measure => simp [intOf]; omega
        · go_wp2
          go_round
          case rel => exact ⟨k + 1, by omega, by go_num⟩
          case measure => simp [intOf]; omega
    · go_wp2
      refine wp_loop_rounds 1 ?_
      rw [rounds_succ]
      go_wp2
      refine wp_loop_rounds 1 ?_
      rw [rounds_succ]
      go_wp2
      go_ret
      exact ⟨rfl, rfl⟩
end Go.Proofs.Ytlkhmldceekdaaa

/- The law's keepInts. -/
namespace Go.Proofs.Ytlkhmldceekdaaa
open Go.RowKit Go.Shelf
set_option linter.unusedVariables false

theorem Try.info45 : (Try.prog.info? 45).map (fun i => (i.zero, i.size, i.bytes)) = some (some (.slice none 0 0), 1, 24) := by kernel_rfl

/-- what is handed to keepInts: nothing, or a list of the call's own without spare room, its array from block 'top' on -/
def Fresh (w : World) (top : Nat) (v : Value) (n : Nat) (xs : List Value) : Prop :=
  (v = .slice none 0 0 ∧ n = 0 ∧ xs = []) ∨ ∃ g, v = .slice (some ⟨g, 0, none⟩) n n ∧ top ≤ g ∧ w.ownsRow 0 3 1 v n xs

theorem Fresh.slice {w : World} {top n : Nat} {v : Value} {xs : List Value} (h : Fresh w top v n xs) : ∃ ao, v = .slice ao n n ∧ (ao = none → n = 0) := by
  rcases h with ⟨rfl, rfl, _⟩ | ⟨g, rfl, _⟩
  · exact ⟨none, rfl, fun _ => rfl⟩
  · exact ⟨_, rfl, fun h => by cases h⟩

/-- a store into a fresh list's array leaves the book -/
theorem BookI.setCell {w : World} {K base top g j : Nat} {L : List Value} {u : Value} (h : BookI w K base top L) {cur : Array Value} (hg : w.heap[g]? = some (.cells cur 3 (0, 0))) (ht : top ≤ g) : BookI (w.setCell ⟨g, j, none⟩ u) K base top L := by
  obtain ⟨⟨kv, h1, h2⟩, h3, h4⟩ := h
  have hgr : w.grownBy (w.setCell ⟨g, j, none⟩ u) (some g) := ⟨rfl, rfl, rfl, (KeepsWalks.setCell w _ u).size, fun k _ hk => Below.heap_setCell _ _ _ k (fun e => hk (by rw [e]))⟩
  refine ⟨⟨kv, ?_, h2.kept hgr ?_⟩, fun i hi => (h3 i hi).kept hgr ?_, Nat.le_trans h4 hgr.size⟩
  · refine (hgr.block K (lt_of_block h1) ?_).trans h1
    intro e
    obtain rfl : K = g := by simpa using e
    rw [h1] at hg; simp at hg
  · rcases h2.2 with ⟨rfl, _⟩ | ⟨R, cap, cu, rfl, _, hR, _⟩
    · exact .inl rfl
    · refine .inr fun e => ?_
      obtain rfl : R = g := by simpa [Value.ownBlock] using e
      rw [hR] at hg; simp at hg
  · cases hv : (L[i]).ownBlock with
    | none => exact .inl rfl
    | some b =>
      refine .inr fun e => ?_
      obtain ⟨_, _, _, hb⟩ := h3 i hi
      have := hb b hv
      simp at e
      omega

theorem heap_set3 {w : World} {b : Nat} {x y z u : Value} {t : TypeId} (h : w.heap[b]? = some (.cells #[x, y, z] t (0, 0))) : (w.setCell ⟨b, 0, none⟩ u).heap[b]? = some (.cells #[u, y, z] t (0, 0)) := by
  obtain ⟨hlt, hk⟩ := Array.getElem?_eq_some_iff.1 h
  show (w.heap.modify b _)[b]? = _
  rw [Array.getElem?_eq_getElem (by rw [Array.size_modify]; exact hlt), Array.getElem_modify_self, hk]
  rfl
theorem grownBy_setCellAt (W : World) (b j : Nat) (v : Value) : W.grownBy (W.setCell ⟨b, j, none⟩ v) (some b) :=
  ⟨rfl, rfl, rfl, (KeepsWalks.setCell W _ v).size, fun k _ hk => Below.heap_setCell _ _ _ k (fun e => hk (by rw [e]))⟩
/-- a list of numbers is no block of another kind -/
theorem Marked.ne {w : World} {top : Nat} {v : Value} {x : Int} {b : Nat} {cs : Array Value} {t : TypeId} (h : Marked w top v x) (hb : w.heap[b]? = some (.cells cs t (0, 0))) (ht : t ≠ 3) : v.ownBlock = none ∨ v.ownBlock ≠ some b := by
  obtain ⟨n, hown, _⟩ := h
  rcases hown.2 with ⟨rfl, _⟩ | ⟨g, cap, cur, rfl, _, hg, _⟩
  · exact .inl rfl
  · refine .inr fun e => ?_
    obtain rfl : g = b := by simpa [Value.ownBlock] using e
    rw [hg] at hb
    simp at hb
    exact ht hb.2.symm
theorem Marked.ne_row {w : World} {top base n : Nat} {v kv : Value} {x : Int} {L : List Value} {t : TypeId} (h : Marked w top v x) (hr : w.ownsRow base t 1 kv n L) (ht : t ≠ 3) : v.ownBlock = none ∨ v.ownBlock ≠ kv.ownBlock := by
  rcases hr.2 with ⟨rfl, _⟩ | ⟨R, cap, cur, rfl, _, hR, _⟩
  · cases hv : v.ownBlock with
    | none => exact .inl rfl
    | some g => exact .inr (by simp [Value.ownBlock])
  · exact h.ne hR ht

theorem book_grown {w w5 : World} {K base n : Nat} {L : List Value} {kv a b : Value} {tmp : Obj} {t : TypeId} (hkv : w.heap[K]? = some (.cells #[kv, a, b] 28 (0, 0))) (hrow : w.ownsRow base t 1 kv n L) (ht : 28 ≠ t) (hgrow : (w.alloc tmp).grownBy w5 kv.ownBlock) :
    w5.heap[K]? = some (.cells #[kv, a, b] 28 (0, 0)) := by
  have hg1 := World.grownBy_alloc w tmp none
  have hK1 : (w.alloc tmp).heap[K]? = some (.cells #[kv, a, b] 28 (0, 0)) := (hg1.block K (lt_of_block hkv) (by simp)).trans hkv
  refine (hgrow.block K (lt_of_block hK1) ?_).trans hK1
  rcases (hrow.alloc tmp).2 with ⟨rfl, _⟩ | ⟨R, cap, cur, rfl, _, hR, _⟩
  · simp [Value.ownBlock]
  · intro e
    obtain rfl : K = R := by simpa [Value.ownBlock] using e
    rw [hK1] at hR
    simp at hR
    exact ht hR.2
theorem free_of_three {w : World} {b j : Nat} {x y z : Value} {t : TypeId} (h : w.heap[b]? = some (.cells #[x, y, z] t (0, 0))) : w.frozen? ⟨b, j, none⟩ = false := by simp [World.frozen?, h]
/-- FOUR LISTS MORE. -/
theorem BookI.push {w w5 : World} {K base top : Nat} {L N : List Value} {kv kv' : Value} {tmp : Obj} (h : BookI w K base top L)
    (hkv : w.heap[K]? = some (.cells #[kv, .slice none 0 0, .slice none 0 0] 28 (0, 0))) (hrow : w.ownsRow base 45 1 kv L.length L)
    (hN : ∀ i (hi : i < N.length), Marked w w.heap.size N[i] (markOf (L.length + i)))
    (hown : w5.ownsRow base 45 1 kv' (L.length + N.length) (L ++ N)) (hgrow : (w.alloc tmp).grownBy w5 kv.ownBlock) :
    BookI (w5.setCell ⟨K, 0, none⟩ kv') K base (w5.setCell ⟨K, 0, none⟩ kv').heap.size (L ++ N) := by
  have hg1 := World.grownBy_alloc w tmp none
  have hK1 : (w.alloc tmp).heap[K]? = some (.cells #[kv, .slice none 0 0, .slice none 0 0] 28 (0, 0)) := (hg1.block K (lt_of_block hkv) (by simp)).trans hkv
  have hr1 := hrow.alloc tmp
  have hK5 : w5.heap[K]? = some (.cells #[kv, .slice none 0 0, .slice none 0 0] 28 (0, 0)) := by
    refine (hgrow.block K (lt_of_block hK1) ?_).trans hK1
    rcases hr1.2 with ⟨rfl, _⟩ | ⟨R, cap, cur, rfl, _, hR, _⟩
    · simp [Value.ownBlock]
    · intro e
      obtain rfl : K = R := by simpa [Value.ownBlock] using e
      rw [hK1] at hR; simp at hR
  have hgs := grownBy_setCellAt w5 K 0 kv'
  have hkeep : ∀ v x, Marked w w.heap.size v x → Marked (w5.setCell ⟨K, 0, none⟩ kv') (w5.setCell ⟨K, 0, none⟩ kv').heap.size v x := by
    intro v x hm
    have m1 : Marked (w.alloc tmp) w.heap.size v x := hm.kept hg1 (by cases hv : v.ownBlock with
      | none => exact .inl rfl
      | some g => exact .inr (by simp))
    have m2 := m1.kept hgrow (m1.ne_row hr1 (by decide))
    have m3 := m2.kept hgs (m2.ne hK5 (by decide))
    refine m3.mono (Nat.le_trans hg1.size (Nat.le_trans hgrow.size hgs.size))
  refine ⟨⟨kv', heap_set3 hK5, ?_⟩, fun i hi => ?_, Nat.le_refl _⟩
  · rw [List.length_append]
    refine hown.kept hgs ?_
    rcases hown.2 with ⟨rfl, _⟩ | ⟨R, cap, cur, rfl, _, hR, _⟩
    · exact .inl rfl
    · refine .inr fun e => ?_
      obtain rfl : R = K := by simpa [Value.ownBlock] using e
      rw [hK5] at hR; simp at hR
  · by_cases hlt : i < L.length
    · have h1 := hkeep _ _ ((h.lists i hlt).mono h.top_le)
      rw [List.getElem_append_left hlt]
      exact h1
    · have h2 : i - L.length < N.length := by rw [List.length_append] at hi; omega
      have h1 := hkeep _ _ (hN (i - L.length) h2)
      rw [List.getElem_append_right (by omega)]
      rw [show L.length + (i - L.length) = i by omega] at h1
      exact h1
theorem set_step {X : Value} {xs : List Value} {k : Nat} (hk : k < xs.length) : (List.replicate k X ++ xs.drop k).set k X = List.replicate (k + 1) X ++ xs.drop (k + 1) := by
  rw [List.set_append_right _ _ (by simp)]
  simp only [List.length_replicate, Nat.sub_self]
  rw [List.drop_eq_getElem_cons hk, List.set_cons_zero, List.replicate_succ', List.append_assoc]
  rfl
theorem markOf_four {n i : Nat} (h : n % 4 = 0) (hi : i < 4) : markOf (n + i) = -1 - (n : Int) := by
  unfold markOf
  have : (n + i) / 4 * 4 = n := by omega
  rw [this]
end Go.Proofs.Ytlkhmldceekdaaa
