/- moot.Members. -/
import Derived.Test.YtgeecddmificeaaLeader
namespace Go.Proofs.Ytgeecddmificeaa
open Go.RowKit Go.Shelf
attribute [local go_sem] Oper.semAt_some
set_option linter.unusedVariables false

/-- what Members answers: the members, if there are any; the error -/
def memO (n : Int) (c : ByteArray) : Option Nat := if 4 ≤ n ∧ n ≤ 7 then members n.toNat c else none
def memErr (n : Int) (c : ByteArray) : Int := if 4 ≤ n ∧ n ≤ 7 then (if (members n.toNat c).isSome then 0 else 5) else 1

def MemPost (n : Int) (c : ByteArray) (w : World) (e : Ending) (w' : World) : Prop :=
  ∃ v, e = .returned (.tuple #[v, .int .i64 (memErr n c)]) ∧ Below w.heap.size w w' ∧
    (∀ s, memO n c = some s → (∃ g, v = .slice (some ⟨g, 0, none⟩) (sizeS s) (sizeS s)) ∧ OwnInts w' w.heap.size v (listed s)) ∧ (memO n c = none → v = .slice none 0 0)

theorem tup_err {v : Value} {a b : Int} (h : a = b) : Ending.returned (.tuple #[v, .int .i64 a]) = .returned (.tuple #[v, .int .i64 b]) := by rw [h]
theorem members_cfg (n : Int) (c : ByteArray) (w : World) (hn : ¬ (4 ≤ n ∧ n ≤ 7)) : Calls Try.prog 9 #[.int .i64 n, .string c] w (MemPost n c w) := by
  have hn' : n < 4 ∨ 7 < n := by omega
  have HN := hide hn'
  have HE : Hid (memErr n c = 1) := if_neg hn
  have HO : Hid (memO n c = none) := if_neg hn
  clear hn hn'
  go_enter Try.func9, Try.ntmps9
  go_wp2_with (go_at_call 22; refine (chMembers_no n c _ HN.out).mono ?_; rintro e w' ⟨rfl, hb⟩)
  go_ret2
  exact ⟨_, tup_err HE.out.symm, hb, fun s h => (by rw [HO.out] at h; cases h), fun _ => rfl⟩
theorem members_chain (m : Nat) (c : ByteArray) (w : World) (h4 : 4 ≤ m) (h8 : m < 8) (hc : c.size ≤ maxLen) (h : members m c = none) : Calls Try.prog 9 #[.int .i64 (m : Int), .string c] w (MemPost m c w) := by
  have hn : 4 ≤ (m : Int) ∧ (m : Int) ≤ 7 := by omega
  have HM := hide h
  have HE : Hid (memErr m c = 5) := by
    show _ = _
    unfold memErr; rw [if_pos hn, Int.toNat_natCast, h]; rfl
  have HO : Hid (memO m c = none) := by
    show _ = _
    unfold memO; rw [if_pos hn, Int.toNat_natCast, h]
  clear hn h
  go_enter Try.func9, Try.ntmps9
  go_wp2_with (go_at_call 22; refine (chMembers_none m c _ h4 h8 hc HM.out).mono ?_; rintro e w' ⟨rfl, hb⟩)
  go_ret2
  exact ⟨_, tup_err HE.out.symm, hb, fun s h => (by rw [HO.out] at h; cases h), fun _ => rfl⟩

/-- between two rounds: what has been gathered -/
def MidM (n₀ g Bx z s : Nat) (pre : List (Fin 7)) (W : World) : Prop :=
  (∃ v, Boxed W Bx 45 v ∧ W.ownsRow n₀ 3 1 v pre.length ((castL (pre.map Fin.val)).map (Value.int .i64)) ∧ v = .slice (some ⟨g, 0, none⟩) pre.length z) ∧ Boxed W (Bx + 1) 66 (.int .i64 (s : Int))
theorem midM_own (n₀ g Bx z s : Nat) : Own (MidM n₀ g Bx z s) := by
  rintro pre X Y row ⟨h1, h2⟩ hg hr
  exact ⟨holdsRow_own n₀ Bx 45 3 1 (fun pre : List (Fin 7) => pre.length) (fun pre => (castL (pre.map Fin.val)).map (Value.int .i64)) (fun pre v => v = .slice (some ⟨g, 0, none⟩) pre.length z) pre X Y row h1 hg hr, boxed_own' _ _ (fun _ : Unit => _) () X Y row h2 hg hr⟩

set_option maxRecDepth 100000 in
set_option maxHeartbeats 2000000 in
theorem members_ok (m s : Nat) (c : ByteArray) (w : World) (h4 : 4 ≤ m) (h8 : m < 8) (hc : c.size ≤ maxLen) (h : members m c = some s) : Calls Try.prog 9 #[.int .i64 (m : Int), .string c] w (MemPost m c w) := by
  have hn : 4 ≤ (m : Int) ∧ (m : Int) ≤ 7 := by omega
  have HM := hide h
  have HE : Hid (memErr m c = 0) := by
    show _ = _
    unfold memErr; rw [if_pos hn, Int.toNat_natCast, h]; rfl
  have HO : Hid (memO m c = some s) := by
    show _ = _
    unfold memO; rw [if_pos hn, Int.toNat_natCast, h]
  have hs128 := members_lt h8 h
  have hs7 : sizeS s ≤ 7 := sizeS_le
  obtain ⟨z, hz⟩ : ∃ z, sizeS s = z := ⟨_, rfl⟩
  have HZ := hide hz
  rw [hz] at hs7
  clear hn h hz
  obtain ⟨i0, hi, hz0, hz1, hz2⟩ := info_parts Try.info3
  refine (callsIn_wide (n := 6)).1 ?_
  refine callsIn_of_wp_marks Try.func9 rfl trivial ?_ rfl
  simp only [Try.ntmps9, List.size_toArray, List.length_cons, List.length_nil, Nat.reduceAdd, Nat.reduceSub, Array.replicate_succ, Array.replicate_zero, List.push_toArray, List.append_toArray, List.nil_append, List.cons_append]
  gi_wp2_with (first
    | (refine ⟨trivial, ?_⟩; gi_at_call 22; refine (callsIn_wide.2 (chMembers_some m s c _ h4 h8 hc HM.out)).mono ?_; rintro e w1 ⟨rfl, hb1⟩)
    | (refine ⟨trivial, ?_⟩; gi_at_call 23; refine (callsIn_wide.2 (size_is z s hs128 _ HZ.out)).mono ?_; rintro e w' ⟨rfl, rfl⟩)
    | (gi_at_make; refine wpListIn_make_own _ rfl _ _ 45 rfl w.heap.size 3 i0 (.int .i64 0) 1 Try.underlying45 hi hz0 hz1 .i64 .i64 _ z rfl rfl rfl (by rw [hz2]; omega) (by unfold maxLen; omega) (by exact hb1.size) ?_; intro w2 hown0 hgrow0)
    | (refine ⟨trivial, ?_⟩; gi_at_call 24; refine (callsIn_wide.2 (nodes_any _ _)).mono ?_; rintro e w' ⟨rfl, rfl⟩))
  have hsz1 := hb1.size
  have hsz2 := hgrow0.size
  have hb2 : Below w.heap.size w w2 := hb1.grown hgrow0 hsz1 (fun k e => by cases e)
  have b0 := Boxed.new w2 45 (.slice (some ⟨w'.heap.size, 0, none⟩) 0 z)
  have b1 := Boxed.new (w2.alloc (.cells #[.slice (some ⟨w'.heap.size, 0, none⟩) 0 z] 45)) 66 (.int .i64 (s : Int))
  simp only [World.size_alloc] at b1
  have hB0 : Below w.heap.size w ((w2.alloc (.cells #[.slice (some ⟨w'.heap.size, 0, none⟩) 0 z] 45)).alloc (.cells #[.int .i64 (s : Int)] 66)) := (hb2.alloc (by omega) _).alloc (by simp; omega) _
  refine wpIn_rangeFunc_ownG rfl (by omega) (gf := 44) (lb := #[.pointer (some ⟨w2.heap.size + 1, 0, none⟩)]) rfl trivial (enters_of Try.func44 (by kernel_rfl) rfl)
    (nodes_stops 5 (by omega) (w2.heap.size + 1) s hs128 _ b1) keepB_t (keepB_b (by simp)) (Below.refl _ _) (fun _ => rfl)
    (fun pre W => MidM w.heap.size w'.heap.size w2.heap.size z s pre W ∧ Below w.heap.size w W)
    (fun _ _ _ => False)
    (OwnFrom.and (Own.from (midM_own _ _ _ _ _) _) (ownFrom_below (Nat.le_refl _) (by simp; omega)))
    (fun _ _ _ _ _ hs _ _ => hs)
    ⟨⟨⟨_, b0.alloc _, World.ownsRow.alloc (World.ownsRow.alloc hown0 _) _, rfl⟩, b1⟩, hB0⟩
    (fun x => { tmps := #[.int .i64 (m : Int), .string c, undef, undef, .slice none 0 0, .int .i64 0, .int .i64 (s : Int), .int .i64 0, .pointer (some ⟨w2.heap.size, 0, none⟩), .int .i64 (x.1 : Int), .tuple #[.int .i64 (s : Int), .int .i64 0], .int .i64 (m : Int), .string c, .tuple #[.int .i64 (s : Int), .int .i64 0], .int .i64 (s : Int), .int .i64 0, .int .i64 0, .bool false, undef, .int .i64 (s : Int), .int .i64 (z : Int), .slice (some ⟨w'.heap.size, 0, none⟩) 0 z, .int .i64 (s : Int), .func (.func 44) #[] #[.pointer (some ⟨w2.heap.size + 1, 0, none⟩)], .int .i64 (x.1 : Int), undef, undef, undef, undef, undef], defers := [] }) ?assign ?body ?done ?stop
  case assign =>
    intro l x W K hK
    gi_wp2
    exact hK
  case body =>
    rintro l pre x W ⟨⟨⟨v, hv, hrow, rfl⟩, hbs⟩, hB⟩ hlt
    rw [HZ.out] at hlt
    have hc := hv.cell
    have hB1 := hB.size
    have hsn : castL ((pre ++ [x]).map Fin.val) = castL (pre.map Fin.val) ++ [(x.1 : Int)] := by rw [List.map_append, List.map_cons, List.map_nil, castL_snoc]
    have HSN := hide hsn
    clear hsn
    gi_wp2_with (gi_at_builtin; refine wpListIn_append_fits _ rfl _ _ 45 rfl w.heap.size 3 i0 1 Try.underlying45 hi hz1 w'.heap.size pre.length z _ rfl (World.ownsRow.alloc hrow _) ⟨W.heap.size, 0, none⟩ 1 1 [.int .i64 (x.1 : Int)] rfl rfl (cell_one_new _ _ _) (by simp [Value.oneCell']) (by omega) ?_; intro w1 hown' hgrow; obtain ⟨hv1, hv2, hr2, hk2, hb2⟩ := hv.appended (by decide) hrow hB1 (by omega) hown' hgrow; have hc1 := hv1.cell; have hf1 := hv1.frozen; have j4 := (hbs.alloc _).kept hgrow (hbs.not_row (by decide) hrow))
    have n4 := boxed_keep_set (b := w2.heap.size) j4 (by omega) (.slice (some ⟨w'.heap.size, 0, none⟩) (pre.length + 1) z)
    exact ⟨hk2.from _, Eq.trans n4 hbs.symm, ⟨⟨_, hv2, by rw [HSN.out]; simpa using hr2, by simp⟩, n4⟩, hB.trans hb2⟩
  case done =>
    rintro D ys W hD hys ⟨⟨⟨v, hv, hrow, rfl⟩, hbs⟩, hB⟩ hK
    have hlen : ys.length = z := by
      have h1 := congrArg List.length hys
      rw [List.length_map] at h1
      exact h1.trans HZ.out
    rw [hlen] at hv hrow
    rw [hys] at hrow
    have hc := hv.cell
    gi_wp2
    refine ⟨by simp, .inl ⟨_, _, rfl, run_takeDeferred hK, ?_⟩⟩
    refine ⟨.tuple #[.slice (some ⟨w'.heap.size, 0, none⟩) z z, .int .i64 0], ?_, _, tup_err HE.out.symm, hB.trans (belowK_b (w := w) (Nat.le_refl _) W D _ _ (by simp at hD; omega) hK rfl rfl), ?_, ?_⟩
    · simp [results, Try.f9, go_sem]
    · intro s' hs'
      rw [HO.out] at hs'
      cases hs'
      refine ⟨⟨w'.heap.size, by rw [HZ.out]⟩, ?_⟩
      have h2 := ownsRow_putObj hrow (.deferred none) hK rfl
      unfold OwnInts
      rw [castL_len, show (listed s).length = z from HZ.out]
      exact h2
    · intro h; rw [HO.out] at h; cases h
  case stop =>
    rintro D c pre W _ _ h _
    exact h.elim

theorem members_any (n : Int) (c : ByteArray) (w : World) (hc : c.size ≤ maxLen) : Calls Try.prog 9 #[.int .i64 n, .string c] w (MemPost n c w) := by
  by_cases hn : 4 ≤ n ∧ n ≤ 7
  · obtain ⟨m, rfl⟩ := Int.eq_ofNat_of_zero_le (show 0 ≤ n by omega)
    cases h : members m c with
    | none => exact members_chain m c w (by omega) (by omega) hc h
    | some s => exact members_ok m s c w (by omega) (by omega) hc h
  · exact members_cfg n c w hn
end Go.Proofs.Ytgeecddmificeaa
