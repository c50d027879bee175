import Derived.Test.YtpecfjejfkcolaaPart10
/- chains.count. -/
namespace Go.Proofs.Ytpecfjejfkcolaa
open Go.RowKit Go.Shelf
attribute [local go_sem] Oper.semAt_some
set_option linter.unusedVariables false

theorem keepsOthers_of_below {W W' : World} (h : Below W.heap.size W W') : KeepsOthers W W' := ⟨h.size, fun k _ hk _ => (h.block k (lt_of_block hk)).trans hk⟩
theorem boxed_below {W W' : World} {B : Nat} {t : TypeId} {v : Value} (h : Boxed W B t v) (hb : Below W.heap.size W W') : Boxed W' B t v := (hb.block B h.lt).trans h
theorem keepB_below {W W' : World} {B : Nat} (hB : B < W.heap.size) (hb : Below W.heap.size W W') : KeepB B W W' := hb.block B hB

def foldS (ep : List Blk) (s : Nat) (l : List (Fin 7)) : Nat := l.foldl (fun s x => stepS ep s x.1) s
theorem foldS_snoc (ep : List Blk) (s : Nat) (l : List (Fin 7)) (x : Fin 7) : foldS ep s (l ++ [x]) = stepS ep (foldS ep s l) x.1 := by simp [foldS]
theorem foldS_lt {ep : List Blk} {s : Nat} (hs : s < 128) (l : List (Fin 7)) : foldS ep s l < 128 := by
  unfold foldS
  induction l generalizing s with
  | nil => exact hs
  | cons x r ih => exact ih (stepS_lt hs x.2)
theorem foldS_all {ep : List Blk} {s : Nat} {l : List (Fin 7)} (h : l.map Fin.val = listed 127) : foldS ep s l = countS ep s := by
  have h1 : foldS ep s l = (l.map Fin.val).foldl (stepS ep) s := by unfold foldS; rw [List.foldl_map]
  rw [h1, h, show listed 127 = [0, 1, 2, 3, 4, 5, 6] by decide]
  rfl

set_option maxRecDepth 100000 in
set_option maxHeartbeats 2000000 in
theorem count_any (ep : List Blk) (base s0 : Nat) (v : Value) (w : World) (hs : s0 < 128) (hv : OwnBlks w base v ep) (hb : ∀ b ∈ ep, b.1 < 7) (hlen : ep.length ≤ 6) :
    Calls Try.prog 42 #[.int .i64 (s0 : Int), v] w fun e w' => e = .returned (.int .i64 (countS ep s0 : Nat)) ∧ Below w.heap.size w w' := by
  obtain ⟨ao, cap, rfl⟩ := hv.slice
  refine (callsIn_wide (n := 6)).1 ?_
  refine callsIn_of_wp_marks Try.func42 rfl trivial ?_ rfl
  simp only [Try.ntmps42, List.size_toArray, List.length_cons, List.length_nil, Nat.reduceAdd, Nat.reduceSub, Array.replicate_succ, Array.replicate_zero, List.push_toArray, List.append_toArray, List.nil_append, List.cons_append]
  gi_wp2_with (refine ⟨trivial, ?_⟩; gi_at_call 24; refine (callsIn_wide.2 (nodes_any _ _)).mono ?_; rintro e w' ⟨rfl, rfl⟩)
  have b0 := Boxed.new w 66 (.int .i64 (s0 : Int))
  have b1 := Boxed.new (w.alloc (.cells #[.int .i64 (s0 : Int)] 66)) 83 (.slice ao ep.length cap)
  have b2 := Boxed.new ((w.alloc (.cells #[.int .i64 (s0 : Int)] 66)).alloc (.cells #[.slice ao ep.length cap] 83)) 66 (.int .i64 127)
  simp only [World.size_alloc] at b1 b2
  have hB0 : Below w.heap.size w (((w.alloc (.cells #[.int .i64 (s0 : Int)] 66)).alloc (.cells #[.slice ao ep.length cap] 83)).alloc (.cells #[.int .i64 127] 66)) := (((Below.refl _ w).alloc (Nat.le_refl _) _).alloc (by simp) _).alloc (by simp; omega) _
  refine wpIn_rangeFunc_ownG rfl (by omega) (gf := 44) (lb := #[.pointer (some ⟨w.heap.size + 1 + 1, 0, none⟩)]) rfl trivial (enters_of Try.func44 (by kernel_rfl) rfl)
    (nodes_stops 5 (by omega) (w.heap.size + 1 + 1) 127 (by omega) _ b2) keepB_t (keepB_b (by simp)) (Below.refl _ _) (fun _ => rfl)
    (fun pre W => (Boxed W w.heap.size 66 (.int .i64 (foldS ep s0 pre : Nat)) ∧ Boxed W (w.heap.size + 1) 83 (.slice ao ep.length cap) ∧ w.heap.size + 1 + 1 < W.heap.size) ∧ Below w.heap.size w W)
    (fun _ _ _ => False)
    (OwnFrom.and (Own.from (fun s A B row hs hg hr => ⟨boxed_own' _ _ (fun pre : List (Fin 7) => Value.int .i64 (foldS ep s0 pre : Nat)) s A B row hs.1 hg hr, boxed_own' _ _ (fun _ : List (Fin 7) => Value.slice ao ep.length cap) s A B row hs.2.1 hg hr, Nat.lt_of_lt_of_le hs.2.2 hg.size⟩) _) (ownFrom_below (Nat.le_refl _) (by simp; omega)))
    (fun _ _ _ _ _ hs _ _ => hs)
    ⟨⟨(b0.alloc _).alloc _, b1.alloc _, by simp⟩, hB0⟩
    (fun x => { tmps := #[.int .i64 (s0 : Int), .slice ao ep.length cap, .pointer (some ⟨w.heap.size, 0, none⟩), .pointer (some ⟨w.heap.size + 1, 0, none⟩), .int .i64 0, .int .i64 (x.1 : Int), .func (.func 44) #[] #[.pointer (some ⟨w.heap.size + 1 + 1, 0, none⟩)], .int .i64 (x.1 : Int), undef, undef, undef, undef, undef, undef, undef, undef, undef, undef, undef, undef, undef, undef, undef, undef, undef, undef, undef, undef, undef, undef, undef, undef, undef, undef, undef, undef, undef], defers := [] }) ?assign ?body ?done ?stop
  case assign =>
    intro l x W K hK
    gi_wp2
    exact hK
  case body =>
    rintro l pre x W ⟨⟨hb0, hb1, hsz⟩, hB⟩ hlt
    have hown := show OwnBlks W base _ ep from ownsRow_below hv hB
    have hst := foldS_snoc ep s0 pre x
    have hs128 := foldS_lt (ep := ep) hs pre
    obtain ⟨s, hse⟩ : ∃ s, foldS ep s0 pre = s := ⟨_, rfl⟩
    rw [hse] at hb0 hst hs128
    have hx7 := x.2
    have hva := votes_eq ep 43 x.1 hb
    have hva2 := votesS_lt ep 43 x.1 hb
    obtain ⟨va, hvae⟩ : ∃ va, votesS ep 43 x.1 0 = va := ⟨_, rfl⟩
    rw [hvae] at hva hva2
    have hvc := votes_eq ep 45 x.1 hb
    have hvc2 := votesS_lt ep 45 x.1 hb
    obtain ⟨vc, hvce⟩ : ∃ vc, votesS ep 45 x.1 0 = vc := ⟨_, rfl⟩
    rw [hvce] at hvc hvc2
    obtain ⟨a, hae⟩ : ∃ a, votes ep 43 x.1 = a := ⟨_, rfl⟩
    obtain ⟨c, hce⟩ : ∃ c, votes ep 45 x.1 = c := ⟨_, rfl⟩
    obtain ⟨z, hze⟩ : ∃ z, sizeS s = z := ⟨_, rfl⟩
    rw [hae] at hva
    rw [hce] at hvc
    have hst2 : foldS ep s0 (pre ++ [x]) = if 2 ≤ a then withS s x.1 else if 2 ≤ c ∧ s.testBit x.1 = true ∧ 4 < z then withoutS s x.1 else s := by
      rw [hst, stepS, hae, hce, hze]
    have hhas : hasS s (x.1 : Int) = s.testBit x.1 := by
      have h7 : ((x.1 : Int) < 7) := by omega
      simp [hasS, h7]
    obtain ⟨b, hbe⟩ : ∃ b, s.testBit x.1 = b := ⟨_, rfl⟩
    rw [hbe] at hst2 hhas
    have HVA := hide hva
    have HVC := hide hvc
    have HVAE := hide hvae
    have HVCE := hide hvce
    have HZE := hide hze
    have HHAS := hide hhas
    have HBL := hide hb
    obtain ⟨xv, hxv⟩ : ∃ xv, x.1 = xv := ⟨_, rfl⟩
    rw [hxv] at hx7 hst2 HVAE HVCE HHAS ⊢
    clear hst hva hvc hvae hvce hae hce hze hhas hbe hse hxv hb
    have hc0 := hb0.cell
    have hc1 := hb1.cell
    by_cases h1 : 2 ≤ a
    · rw [if_pos h1] at hst2
      have HST := hide hst2
      clear hst2
      gi_wp2_with fail
      refine ⟨trivial, ?_⟩
      refine (CallsIn.inRound l (callsIn_wide.2 (voters_is 43 va ep base _ 43 xv _ rfl hown HBL.out hlen (by omega) hx7 HVAE.out))).mono ?_
      rintro e W1 ⟨rfl, hbel⟩
      have hb01 := boxed_below hb0 hbel
      have hc01 := hb01.cell
      have hf01 := hb01.frozen
      have hb11 := boxed_below hb1 hbel
      have hsz1 := hbel.size
      gi_wp2_with (first
        | (refine ⟨trivial, ?_⟩; gi_at_call 23; refine (CallsIn.inRound l (callsIn_wide.2 (size_is a va hva2 _ HVA.out))).mono ?_; rintro e w' ⟨rfl, rfl⟩)
        | (refine ⟨trivial, ?_⟩; gi_at_call 57; refine (CallsIn.inRound l (callsIn_wide.2 (with_any s xv hs128 hx7 _))).mono ?_; rintro e w' ⟨rfl, rfl⟩))
      exact ⟨((keepsOthers_of_below hbel).trans (KeepsOthers.setCell _ _ _)).from _, keepB_t (keepB_below (by omega) hbel) (keepB_set (by omega) _), ⟨by rw [HST.out]; exact hb01.set _, boxed_keep_set hb11 (by omega) _, Nat.lt_of_lt_of_le (by omega) (KeepsWalks.setCell _ _ _).size⟩, (hB.trans (hbel.mono hB.size)).setCell (p := ⟨w.heap.size, 0, none⟩) (Nat.le_refl _) _⟩
    · rw [if_neg h1] at hst2
      by_cases h2 : 2 ≤ c
      · cases b with
        | true =>
          by_cases h3 : 4 < z
          · rw [if_pos ⟨h2, rfl, h3⟩] at hst2
            have HST := hide hst2
            clear hst2
            gi_wp2_with fail
            refine ⟨trivial, ?_⟩
            refine (CallsIn.inRound l (callsIn_wide.2 (voters_is 43 va ep base _ 43 xv _ rfl hown HBL.out hlen (by omega) hx7 HVAE.out))).mono ?_
            rintro e W1 ⟨rfl, hbel⟩
            have hb01 := boxed_below hb0 hbel
            have hb11 := boxed_below hb1 hbel
            have hc11 := hb11.cell
            have hown1 := show OwnBlks W1 base _ ep from ownsRow_below hown hbel
            have hsz1 := hbel.size
            gi_wp2_with (refine ⟨trivial, ?_⟩; gi_at_call 23; refine (CallsIn.inRound l (callsIn_wide.2 (size_is a va hva2 _ HVA.out))).mono ?_; rintro e w' ⟨rfl, rfl⟩)
            refine ⟨trivial, ?_⟩
            refine (CallsIn.inRound l (callsIn_wide.2 (voters_is 45 vc ep base _ 45 xv _ rfl hown1 HBL.out hlen (by omega) hx7 HVCE.out))).mono ?_
            rintro e W2 ⟨rfl, hbel2⟩
            have hb02 := boxed_below hb01 hbel2
            have hb12 := boxed_below hb11 hbel2
            have hc02 := hb02.cell
            have hf02 := hb02.frozen
            have hsz2 := hbel2.size
            have hbe3 := hbel.trans (hbel2.mono hsz1)
            clear hbel hbel2 hb01 hb11 hc11 hown1 hown hc0 hc1
            gi_wp2_with (refine ⟨trivial, ?_⟩; gi_at_call 23; refine (CallsIn.inRound l (callsIn_wide.2 (size_is c vc hvc2 _ HVC.out))).mono ?_; rintro e w' ⟨rfl, rfl⟩)
            gi_wp2_with (refine ⟨trivial, ?_⟩; gi_at_call 41; refine (CallsIn.inRound l (callsIn_wide.2 (has_is true s hs128 xv _ HHAS.out))).mono ?_; rintro e w' ⟨rfl, rfl⟩)
            gi_wp2_with (first | (refine ⟨trivial, ?_⟩; gi_at_call 23; refine (CallsIn.inRound l (callsIn_wide.2 (size_is z s hs128 _ HZE.out))).mono ?_; rintro e w' ⟨rfl, rfl⟩) | (refine ⟨trivial, ?_⟩; gi_at_call 58; refine (CallsIn.inRound l (callsIn_wide.2 (without_any s xv hs128 hx7 _))).mono ?_; rintro e w' ⟨rfl, rfl⟩))
            exact ⟨((keepsOthers_of_below hbe3).trans (KeepsOthers.setCell _ _ _)).from _, keepB_t (keepB_below (by omega) hbe3) (keepB_set (by omega) _), ⟨by rw [HST.out]; exact hb02.set _, boxed_keep_set hb12 (by omega) _, Nat.lt_of_lt_of_le (by omega) (KeepsWalks.setCell _ _ _).size⟩, (hB.trans (hbe3.mono hB.size)).setCell (p := ⟨w.heap.size, 0, none⟩) (Nat.le_refl _) _⟩
          · rw [if_neg (by rintro ⟨_, _, h⟩; exact h3 h)] at hst2
            have HST := hide hst2
            clear hst2
            gi_wp2_with fail
            refine ⟨trivial, ?_⟩
            refine (CallsIn.inRound l (callsIn_wide.2 (voters_is 43 va ep base _ 43 xv _ rfl hown HBL.out hlen (by omega) hx7 HVAE.out))).mono ?_
            rintro e W1 ⟨rfl, hbel⟩
            have hb01 := boxed_below hb0 hbel
            have hb11 := boxed_below hb1 hbel
            have hc11 := hb11.cell
            have hown1 := show OwnBlks W1 base _ ep from ownsRow_below hown hbel
            have hsz1 := hbel.size
            gi_wp2_with (refine ⟨trivial, ?_⟩; gi_at_call 23; refine (CallsIn.inRound l (callsIn_wide.2 (size_is a va hva2 _ HVA.out))).mono ?_; rintro e w' ⟨rfl, rfl⟩)
            refine ⟨trivial, ?_⟩
            refine (CallsIn.inRound l (callsIn_wide.2 (voters_is 45 vc ep base _ 45 xv _ rfl hown1 HBL.out hlen (by omega) hx7 HVCE.out))).mono ?_
            rintro e W2 ⟨rfl, hbel2⟩
            have hb02 := boxed_below hb01 hbel2
            have hb12 := boxed_below hb11 hbel2
            have hc02 := hb02.cell
            have hf02 := hb02.frozen
            have hsz2 := hbel2.size
            have hbe3 := hbel.trans (hbel2.mono hsz1)
            clear hbel hbel2 hb01 hb11 hc11 hown1 hown hc0 hc1
            gi_wp2_with (refine ⟨trivial, ?_⟩; gi_at_call 23; refine (CallsIn.inRound l (callsIn_wide.2 (size_is c vc hvc2 _ HVC.out))).mono ?_; rintro e w' ⟨rfl, rfl⟩)
            gi_wp2_with (refine ⟨trivial, ?_⟩; gi_at_call 41; refine (CallsIn.inRound l (callsIn_wide.2 (has_is true s hs128 xv _ HHAS.out))).mono ?_; rintro e w' ⟨rfl, rfl⟩)
            gi_wp2_with (refine ⟨trivial, ?_⟩; gi_at_call 23; refine (CallsIn.inRound l (callsIn_wide.2 (size_is z s hs128 _ HZE.out))).mono ?_; rintro e w' ⟨rfl, rfl⟩)
            exact ⟨(keepsOthers_of_below hbe3).from _, keepB_below (by omega) hbe3, ⟨by rw [HST.out]; exact hb02, hb12, by omega⟩, hB.trans (hbe3.mono hB.size)⟩
        | false =>
          rw [if_neg (by rintro ⟨_, h, _⟩; cases h)] at hst2
          have HST := hide hst2
          clear hst2
          gi_wp2_with fail
          refine ⟨trivial, ?_⟩
          refine (CallsIn.inRound l (callsIn_wide.2 (voters_is 43 va ep base _ 43 xv _ rfl hown HBL.out hlen (by omega) hx7 HVAE.out))).mono ?_
          rintro e W1 ⟨rfl, hbel⟩
          have hb01 := boxed_below hb0 hbel
          have hb11 := boxed_below hb1 hbel
          have hc11 := hb11.cell
          have hown1 := show OwnBlks W1 base _ ep from ownsRow_below hown hbel
          have hsz1 := hbel.size
          gi_wp2_with (refine ⟨trivial, ?_⟩; gi_at_call 23; refine (CallsIn.inRound l (callsIn_wide.2 (size_is a va hva2 _ HVA.out))).mono ?_; rintro e w' ⟨rfl, rfl⟩)
          refine ⟨trivial, ?_⟩
          refine (CallsIn.inRound l (callsIn_wide.2 (voters_is 45 vc ep base _ 45 xv _ rfl hown1 HBL.out hlen (by omega) hx7 HVCE.out))).mono ?_
          rintro e W2 ⟨rfl, hbel2⟩
          have hb02 := boxed_below hb01 hbel2
          have hb12 := boxed_below hb11 hbel2
          have hc02 := hb02.cell
          have hf02 := hb02.frozen
          have hsz2 := hbel2.size
          have hbe3 := hbel.trans (hbel2.mono hsz1)
          clear hbel hbel2 hb01 hb11 hc11 hown1 hown hc0 hc1
          gi_wp2_with (refine ⟨trivial, ?_⟩; gi_at_call 23; refine (CallsIn.inRound l (callsIn_wide.2 (size_is c vc hvc2 _ HVC.out))).mono ?_; rintro e w' ⟨rfl, rfl⟩)
          gi_wp2_with (refine ⟨trivial, ?_⟩; gi_at_call 41; refine (CallsIn.inRound l (callsIn_wide.2 (has_is false s hs128 xv _ HHAS.out))).mono ?_; rintro e w' ⟨rfl, rfl⟩)
          refine ⟨trivial, ?_⟩
          gi_wp2
          exact ⟨(keepsOthers_of_below hbe3).from _, keepB_below (by omega) hbe3, ⟨by rw [HST.out]; exact hb02, hb12, by omega⟩, hB.trans (hbe3.mono hB.size)⟩
      · rw [if_neg (by rintro ⟨h, _⟩; exact h2 h)] at hst2
        have HST := hide hst2
        clear hst2
        gi_wp2_with fail
        refine ⟨trivial, ?_⟩
        refine (CallsIn.inRound l (callsIn_wide.2 (voters_is 43 va ep base _ 43 xv _ rfl hown HBL.out hlen (by omega) hx7 HVAE.out))).mono ?_
        rintro e W1 ⟨rfl, hbel⟩
        have hb01 := boxed_below hb0 hbel
        have hb11 := boxed_below hb1 hbel
        have hc11 := hb11.cell
        have hown1 := show OwnBlks W1 base _ ep from ownsRow_below hown hbel
        have hsz1 := hbel.size
        gi_wp2_with (refine ⟨trivial, ?_⟩; gi_at_call 23; refine (CallsIn.inRound l (callsIn_wide.2 (size_is a va hva2 _ HVA.out))).mono ?_; rintro e w' ⟨rfl, rfl⟩)
        refine ⟨trivial, ?_⟩
        refine (CallsIn.inRound l (callsIn_wide.2 (voters_is 45 vc ep base _ 45 xv _ rfl hown1 HBL.out hlen (by omega) hx7 HVCE.out))).mono ?_
        rintro e W2 ⟨rfl, hbel2⟩
        have hb02 := boxed_below hb01 hbel2
        have hb12 := boxed_below hb11 hbel2
        have hc02 := hb02.cell
        have hf02 := hb02.frozen
        have hsz2 := hbel2.size
        have hbe3 := hbel.trans (hbel2.mono hsz1)
        clear hbel hbel2 hb01 hb11 hc11 hown1 hown hc0 hc1
        gi_wp2_with (refine ⟨trivial, ?_⟩; gi_at_call 23; refine (CallsIn.inRound l (callsIn_wide.2 (size_is c vc hvc2 _ HVC.out))).mono ?_; rintro e w' ⟨rfl, rfl⟩)
        refine ⟨trivial, ?_⟩
        gi_wp2
        refine ⟨trivial, ?_⟩
        gi_wp2
        exact ⟨(keepsOthers_of_below hbe3).from _, keepB_below (by omega) hbe3, ⟨by rw [HST.out]; exact hb02, hb12, by omega⟩, hB.trans (hbe3.mono hB.size)⟩
  case done =>
    rintro D ys W hD hys ⟨⟨hb0, hb1, hsz⟩, hB⟩ hK
    rw [foldS_all hys] at hb0
    have hc := hb0.cell
    gi_wp2
    refine ⟨by simp, .inl ⟨_, _, rfl, run_takeDeferred hK, ?_⟩⟩
    exact ⟨_, results_tmp rfl _ _ _, rfl, hB.trans (belowK_b (w := w) (Nat.le_refl _) W D _ _ (by simp at hD; omega) hK rfl rfl)⟩
  case stop =>
    rintro D c pre W _ _ h _
    exact h.elim
end Go.Proofs.Ytpecfjejfkcolaa
