import Derived.Test.YtlkhmldceekdaaaPart3
import Derived.Deep.QuietTactic
import Derived.BigQuiet
import Derived.WalkSmall
import Derived.Deep.RegionHeld3
import Derived.Deep.DrawnRows
/- moot.Members. -/
namespace Go.Proofs.Ytlkhmldceekdaaa
open Go.RowKit Go.Shelf
attribute [local go_sem] Oper.semAt_some
set_option linter.unusedVariables false

/-- what Members answers: the members, if there are any; the error -/
def memO (n : Int) (c : ByteArray) : Option Nat := if 4 ≤ n ∧ n ≤ 7 then members n.toNat c else none
def memErr (n : Int) (c : ByteArray) : Int := if 4 ≤ n ∧ n ≤ 7 then (if (members n.toNat c).isSome then 0 else 5) else 1

def MemPost (n : Int) (c : ByteArray) (w : World) (e : Ending) (w' : World) : Prop :=
  ∃ v, e = .returned (.tuple #[v, .int .i64 (memErr n c)]) ∧ Below w.heap.size w w' ∧
    (∀ s, memO n c = some s → (∃ g, v = .slice (some ⟨g, 0, none⟩) (sizeS s) (sizeS s)) ∧ OwnInts w' w.heap.size v (listed s)) ∧ (memO n c = none → v = .slice none 0 0)

theorem tup_err {v : Value} {a b : Int} (h : a = b) : Ending.returned (.tuple #[v, .int .i64 a]) = .returned (.tuple #[v, .int .i64 b]) := by rw [h]
theorem members_cfg (n : Int) (c : ByteArray) (w : World) (hn : ¬ (4 ≤ n ∧ n ≤ 7)) : Calls Try.prog 9 #[.int .i64 n, .string c] w (MemPost n c w) := by
  have hn' : n < 4 ∨ 7 < n := by omega
  have HN := hide hn'
  have HE : Hid (memErr n c = 1) := if_neg hn
  have HO : Hid (memO n c = none) := if_neg hn
  clear hn hn'
  go_enter Try.func9, Try.ntmps9
  go_wp2_with (go_at_call 22; refine (chMembers_no n c _ HN.out).mono ?_; rintro e w' ⟨rfl, hb⟩)
  go_ret2
  exact ⟨_, tup_err HE.out.symm, hb, fun s h => (by rw [HO.out] at h; cases h), fun _ => rfl⟩
theorem members_chain (m : Nat) (c : ByteArray) (w : World) (h4 : 4 ≤ m) (h8 : m < 8) (hc : c.size ≤ maxLen) (h : members m c = none) : Calls Try.prog 9 #[.int .i64 (m : Int), .string c] w (MemPost m c w) := by
  have hn : 4 ≤ (m : Int) ∧ (m : Int) ≤ 7 := by omega
  have HM := hide h
  have HE : Hid (memErr m c = 5) := by
    show _ = _
    unfold memErr; rw [if_pos hn, Int.toNat_natCast, h]; rfl
  have HO : Hid (memO m c = none) := by
    show _ = _
    unfold memO; rw [if_pos hn, Int.toNat_natCast, h]
  clear hn h
  go_enter Try.func9, Try.ntmps9
  go_wp2_with (go_at_call 22; refine (chMembers_none m c _ h4 h8 hc HM.out).mono ?_; rintro e w' ⟨rfl, hb⟩)
  go_ret2
  exact ⟨_, tup_err HE.out.symm, hb, fun s h => (by rw [HO.out] at h; cases h), fun _ => rfl⟩

/-- between two rounds: what has been gathered -/
def MidM (n₀ g Bx z s : Nat) (pre : List (Fin 7)) (W : World) : Prop :=
  (∃ v, Boxed W Bx 45 v ∧ W.ownsRow n₀ 3 1 v pre.length ((castL (pre.map Fin.val)).map (Value.int .i64)) ∧ v = .slice (some ⟨g, 0, none⟩) pre.length z) ∧ Boxed W (Bx + 1) 66 (.int .i64 (s : Int))
theorem midM_own (n₀ g Bx z s : Nat) : Own (MidM n₀ g Bx z s) := by
  rintro pre X Y row ⟨h1, h2⟩ hg hr
  exact ⟨holdsRow_own n₀ Bx 45 3 1 (fun pre : List (Fin 7) => pre.length) (fun pre => (castL (pre.map Fin.val)).map (Value.int .i64)) (fun pre v => v = .slice (some ⟨g, 0, none⟩) pre.length z) pre X Y row h1 hg hr, boxed_own' _ _ (fun _ : Unit => _) () X Y row h2 hg hr⟩

set_option maxRecDepth 100000 in
set_option maxHeartbeats 2000000 in
theorem members_ok (m s : Nat) (c : ByteArray) (w : World) (h4 : 4 ≤ m) (h8 : m < 8) (hc : c.size ≤ maxLen) (h : members m c = some s) : Calls Try.prog 9 #[.int .i64 (m : Int), .string c] w (MemPost m c w) := by
  have hn : 4 ≤ (m : Int) ∧ (m : Int) ≤ 7 := by omega
  have HM := hide h
  have HE : Hid (memErr m c = 0) := by
    show _ = _
    unfold memErr; rw [if_pos hn, Int.toNat_natCast, h]; rfl
  have HO : Hid (memO m c = some s) := by
    show _ = _
    unfold memO; rw [if_pos hn, Int.toNat_natCast, h]
  have hs128 := members_lt h8 h
  have hs7 : sizeS s ≤ 7 := sizeS_le
  obtain ⟨z, hz⟩ : ∃ z, sizeS s = z := ⟨_, rfl⟩
  have HZ := hide hz
  rw [hz] at hs7
  clear hn h hz
  obtain ⟨i0, hi, hz0, hz1, hz2⟩ := info_parts Try.info3
  refine (callsIn_wide (n := 6)).1 ?_
  refine callsIn_of_wp_marks Try.func9 rfl trivial ?_ rfl
  simp only [Try.ntmps9, List.size_toArray, List.length_cons, List.length_nil, Nat.reduceAdd, Nat.reduceSub, Array.replicate_succ, Array.replicate_zero, List.push_toArray, List.append_toArray, List.nil_append, List.cons_append]
  gi_wp2_with (first
    | (refine ⟨trivial, ?_⟩; gi_at_call 22; refine (callsIn_wide.2 (chMembers_some m s c _ h4 h8 hc HM.out)).mono ?_; rintro e w1 ⟨rfl, hb1⟩)
    | (refine ⟨trivial, ?_⟩; gi_at_call 23; refine (callsIn_wide.2 (size_is z s hs128 _ HZ.out)).mono ?_; rintro e w' ⟨rfl, rfl⟩)
    | (gi_at_make; refine wpListIn_make_own _ rfl _ _ 45 rfl w.heap.size 3 i0 (.int .i64 0) 1 Try.underlying45 hi hz0 hz1 .i64 .i64 _ z rfl rfl rfl (by rw [hz2]; omega) (by unfold maxLen; omega) (by exact hb1.size) ?_; intro w2 hown0 hgrow0)
    | (refine ⟨trivial, ?_⟩; gi_at_call 24; refine (callsIn_wide.2 (nodes_any _ _)).mono ?_; rintro e w' ⟨rfl, rfl⟩))
  have hsz1 := hb1.size
  have hsz2 := hgrow0.size
  have hb2 : Below w.heap.size w w2 := hb1.grown hgrow0 hsz1 (fun k e => by cases e)
  have b0 := Boxed.new w2 45 (.slice (some ⟨w'.heap.size, 0, none⟩) 0 z)
  have b1 := Boxed.new (w2.alloc (.cells #[.slice (some ⟨w'.heap.size, 0, none⟩) 0 z] 45)) 66 (.int .i64 (s : Int))
  simp only [World.size_alloc] at b1
  have hB0 : Below w.heap.size w ((w2.alloc (.cells #[.slice (some ⟨w'.heap.size, 0, none⟩) 0 z] 45)).alloc (.cells #[.int .i64 (s : Int)] 66)) := (hb2.alloc (by omega) _).alloc (by simp; omega) _
  refine wpIn_rangeFunc_ownG rfl (by omega) (gf := 44) (lb := #[.pointer (some ⟨w2.heap.size + 1, 0, none⟩)]) rfl trivial (enters_of Try.func44 (by kernel_rfl) rfl)
    (nodes_stops 5 (by omega) (w2.heap.size + 1) s hs128 _ b1) keepB_t (keepB_b (by simp)) (Below.refl _ _) (fun _ => rfl)
    (fun pre W => MidM w.heap.size w'.heap.size w2.heap.size z s pre W ∧ Below w.heap.size w W)
    (fun _ _ _ => False)
    (OwnFrom.and (Own.from (midM_own _ _ _ _ _) _) (ownFrom_below (Nat.le_refl _) (by simp; omega)))
    (fun _ _ _ _ _ hs _ _ => hs)
    ⟨⟨⟨_, b0.alloc _, World.ownsRow.alloc (World.ownsRow.alloc hown0 _) _, rfl⟩, b1⟩, hB0⟩
    (fun x => { tmps := #[.int .i64 (m : Int), .string c, undef, undef, .slice none 0 0, .int .i64 0, .int .i64 (s : Int), .int .i64 0, .pointer (some ⟨w2.heap.size, 0, none⟩), .int .i64 (x.1 : Int), .tuple #[.int .i64 (s : Int), .int .i64 0], .int .i64 (m : Int), .string c, .tuple #[.int .i64 (s : Int), .int .i64 0], .int .i64 (s : Int), .int .i64 0, .int .i64 0, .bool false, undef, .int .i64 (s : Int), .int .i64 (z : Int), .slice (some ⟨w'.heap.size, 0, none⟩) 0 z, .int .i64 (s : Int), .func (.func 44) #[] #[.pointer (some ⟨w2.heap.size + 1, 0, none⟩)], .int .i64 (x.1 : Int), undef, undef, undef, undef, undef], defers := [] }) ?assign ?body ?done ?stop
  case assign =>
    intro l x W K hK
    gi_wp2
    exact hK
  case body =>
    rintro l pre x W ⟨⟨⟨v, hv, hrow, rfl⟩, hbs⟩, hB⟩ hlt
    rw [HZ.out] at hlt
    have hc := hv.cell
    have hB1 := hB.size
    have hsn : castL ((pre ++ [x]).map Fin.val) = castL (pre.map Fin.val) ++ [(x.1 : Int)] := by rw [List.map_append, List.map_cons, List.map_nil, castL_snoc]
    have HSN := hide hsn
    clear hsn
    gi_wp2_with (gi_at_builtin; refine wpListIn_append_fits _ rfl _ _ 45 rfl w.heap.size 3 i0 1 Try.underlying45 hi hz1 w'.heap.size pre.length z _ rfl (World.ownsRow.alloc hrow _) ⟨W.heap.size, 0, none⟩ 1 1 [.int .i64 (x.1 : Int)] rfl rfl (cell_one_new _ _ _) (by simp [Value.oneCell']) (by omega) ?_; intro w1 hown' hgrow; obtain ⟨hv1, hv2, hr2, hk2, hb2⟩ := hv.appended (by decide) hrow hB1 (by omega) hown' hgrow; have hc1 := hv1.cell; have hf1 := hv1.frozen; have j4 := (hbs.alloc _).kept hgrow (hbs.not_row (by decide) hrow))
    have n4 := boxed_keep_set (b := w2.heap.size) j4 (by omega) (.slice (some ⟨w'.heap.size, 0, none⟩) (pre.length + 1) z)
    exact ⟨hk2.from _, Eq.trans n4 hbs.symm, ⟨⟨_, hv2, by rw [HSN.out]; simpa using hr2, by simp⟩, n4⟩, hB.trans hb2⟩
  case done =>
    rintro D ys W hD hys ⟨⟨⟨v, hv, hrow, rfl⟩, hbs⟩, hB⟩ hK
    have hlen : ys.length = z := by
      have h1 := congrArg List.length hys
      rw [List.length_map] at h1
      exact h1.trans HZ.out
    rw [hlen] at hv hrow
    rw [hys] at hrow
    have hc := hv.cell
    gi_wp2
    refine ⟨by simp, .inl ⟨_, _, rfl, run_takeDeferred hK, ?_⟩⟩
    refine ⟨.tuple #[.slice (some ⟨w'.heap.size, 0, none⟩) z z, .int .i64 0], ?_, _, tup_err HE.out.symm, hB.trans (belowK_b (w := w) (Nat.le_refl _) W D _ _ (by simp at hD; omega) hK rfl rfl), ?_, ?_⟩
    · simp [results, Try.f9, go_sem]
    · intro s' hs'
      rw [HO.out] at hs'
      cases hs'
      refine ⟨⟨w'.heap.size, by rw [HZ.out]⟩, ?_⟩
      have h2 := ownsRow_putObj hrow (.deferred none) hK rfl
      unfold OwnInts
      rw [castL_len, show (listed s).length = z from HZ.out]
      exact h2
    · intro h; rw [HO.out] at h; cases h
  case stop =>
    rintro D c pre W _ _ h _
    exact h.elim

theorem members_any (n : Int) (c : ByteArray) (w : World) (hc : c.size ≤ maxLen) : Calls Try.prog 9 #[.int .i64 n, .string c] w (MemPost n c w) := by
  by_cases hn : 4 ≤ n ∧ n ≤ 7
  · obtain ⟨m, rfl⟩ := Int.eq_ofNat_of_zero_le (show 0 ≤ n by omega)
    cases h : members m c with
    | none => exact members_chain m c w (by omega) (by omega) hc h
    | some s => exact members_ok m s c w (by omega) (by omega) hc h
  · exact members_cfg n c w hn
end Go.Proofs.Ytlkhmldceekdaaa

/- The law's book: what lists lie in it; sameInts, stays. -/
namespace Go.Proofs.Ytlkhmldceekdaaa
open Go.RowKit Go.Shelf
set_option linter.unusedVariables false

/-- a list of n numbers x, its array below block 'top' -/
def Marked (w : World) (top : Nat) (v : Value) (x : Int) : Prop :=
  ∃ n, w.ownsRow 0 3 1 v n (List.replicate n (.int .i64 x)) ∧ n ≤ 1000 ∧ ∀ g, v.ownBlock = some g → g < top
theorem Marked.slice {w : World} {top : Nat} {v : Value} {x : Int} (h : Marked w top v x) : ∃ ao n cap, v = .slice ao n cap ∧ n ≤ 1000 ∧ (0 < n → ∃ g, ao = some ⟨g, 0, none⟩ ∧ ∀ j, j < n → w.cell? ⟨g, j, none⟩ = some (.int .i64 x)) := by
  obtain ⟨n, hown, hn, _⟩ := h
  have h2 := hown
  rcases hown.2 with ⟨rfl, h0⟩ | ⟨g, cap, cur, rfl, _⟩
  · exact ⟨none, 0, 0, rfl, by omega, fun h => by omega⟩
  · refine ⟨_, n, cap, rfl, hn, fun _ => ⟨g, rfl, fun j hj => ?_⟩⟩
    rw [h2.cellAt j (by omega)]
    simp [hj]
theorem Marked.mono {w : World} {top top' : Nat} {v : Value} {x : Int} (h : Marked w top v x) (ht : top ≤ top') : Marked w top' v x := by
  obtain ⟨n, h1, h2, h3⟩ := h
  exact ⟨n, h1, h2, fun g hg => Nat.lt_of_lt_of_le (h3 g hg) ht⟩
theorem Marked.kept {w w' : World} {top : Nat} {v : Value} {x : Int} {row : Option Nat} (h : Marked w top v x) (hg : w.grownBy w' row) (hne : v.ownBlock = none ∨ v.ownBlock ≠ row) : Marked w' top v x := by
  obtain ⟨n, h1, h2, h3⟩ := h
  exact ⟨n, h1.kept hg hne, h2, h3⟩

/-- the mark of a place -/
def markOf (i : Nat) : Int := -1 - ((i / 4 * 4 : Nat) : Int)

/-- THE BOOK (its lists of numbers; of the others there are none): block K; its own row from 'base' on; the lists' arrays below 'top'. -/
structure BookI (w : World) (K base top : Nat) (L : List Value) : Prop where
  book : ∃ kv, w.heap[K]? = some (.cells #[kv, .slice none 0 0, .slice none 0 0] 28 (0, 0)) ∧ w.ownsRow base 45 1 kv L.length L
  lists : ∀ i (h : i < L.length), Marked w top L[i] (markOf i)
  top_le : top ≤ w.heap.size

theorem grownBy_below {w w' : World} (h : Below w.heap.size w w') : w.grownBy w' none := ⟨h.os, h.tape, h.output, h.size, fun k hk _ => h.block k hk⟩
theorem BookI.below {w w' : World} {K base top : Nat} {L : List Value} (h : BookI w K base top L) (hb : Below w.heap.size w w') : BookI w' K base top L := by
  obtain ⟨⟨kv, h1, h2⟩, h3, h4⟩ := h
  refine ⟨⟨kv, (hb.block K (lt_of_block h1)).trans h1, ownsRow_below h2 hb⟩, fun i hi => (h3 i hi).kept (grownBy_below hb) ?_, Nat.le_trans h4 hb.size⟩
  cases hv : (L[i]).ownBlock with
  | none => exact .inl rfl
  | some g => exact .inr (by simp)
theorem BookI.top_mono {w : World} {K base top top' : Nat} {L : List Value} (h : BookI w K base top L) (ht : top ≤ top') (hw : top' ≤ w.heap.size) : BookI w K base top' L :=
  ⟨h.book, fun i hi => (h.lists i hi).mono ht, hw⟩

theorem below_drewN' (w : World) (n : Nat) : Below w.heap.size w (w.drewN n) := below_drewN (Below.refl _ w) n

set_option maxRecDepth 100000 in
set_option maxHeartbeats 1000000 in
theorem sameInts_same (l : List Int) (a b : Value) (w : World) (ha : Ints w a l) (hb : Ints w b l) (hl : l.length ≤ 1000) :
    Calls Try.prog 13 #[a, b] w fun e w' => e = .returned (.bool true) ∧ Below w.heap.size w w' := by
  by_cases h0 : l.length = 0
  · have e : l = [] := List.length_eq_zero_iff.1 h0
    subst e
    have fa : ∃ ao ca, a = .slice ao 0 ca := by
      rcases ha with ⟨_, rfl⟩ | ⟨g, cap, rfl, _⟩
      · exact ⟨_, _, rfl⟩
      · exact ⟨_, _, rfl⟩
    have fb : ∃ ao ca, b = .slice ao 0 ca := by
      rcases hb with ⟨_, rfl⟩ | ⟨g, cap, rfl, _⟩
      · exact ⟨_, _, rfl⟩
      · exact ⟨_, _, rfl⟩
    obtain ⟨ao, ca, rfl⟩ := fa
    obtain ⟨bo, cb, rfl⟩ := fb
    clear ha hb
    go_enter Try.func13, Try.ntmps13
    go_wp2
    refine wp_loop_rounds 1 ?_
    rw [rounds_succ]
    go_wp2
    go_ret
    exact ⟨rfl, Below.refl _ _⟩
  · rcases ha with ⟨rfl, _⟩ | ⟨g, cap, rfl, hca⟩
    · simp at h0
    rcases hb with ⟨rfl, _⟩ | ⟨g2, cap2, rfl, hcb⟩
    · simp at h0
    have HA := hide hca
    have HB := hide hcb
    clear hca hcb
    go_enter Try.func13, Try.ntmps13
    go_wp2
    go_loopw [5] (fun i wr => ∃ (k n : Nat), k ≤ l.length ∧ i = .int .i64 (k : Int) ∧ wr = w.drewN n) (fun i _ => l.length - (intOf i).toNat)
    case atStart => exact ⟨0, 0, by omega, rfl, rfl⟩
    case round =>
      obtain ⟨k, n, hk, rfl, rfl⟩ := hrel
      by_cases hlt : k < l.length
      · have ca := HA.out k hlt
        have cb := HB.out k hlt
        obtain ⟨x, hx⟩ : ∃ x, l.getD k 0 = x := ⟨_, rfl⟩
        rw [hx] at ca cb
        clear hx
        have i0 : (0 : Int) ≤ (k : Int) := by omega
        have i1 : (k : Int) < (l.length : Int) := by omega
        go_wp2
        go_quiet (fail)
        go_wp2
        go_roundw
        case rel => exact ⟨k + 1, n + nq, by omega, by go_num, rfl⟩
        case measure => simp [intOf]; omega
      · go_wp2
        go_ret
        exact ⟨rfl, below_drewN' _ _⟩
end Go.Proofs.Ytlkhmldceekdaaa

/- The law's stays, where the book holds lists of numbers alone. -/
namespace Go.Proofs.Ytlkhmldceekdaaa
open Go.RowKit Go.Shelf
set_option linter.unusedVariables false

theorem cells_of_three {w : World} {b : Nat} {x y z : Value} {t : TypeId} (h : w.heap[b]? = some (.cells #[x, y, z] t (0, 0))) :
    w.cell? ⟨b, 0, none⟩ = some x ∧ w.cell? ⟨b, 1, none⟩ = some y ∧ w.cell? ⟨b, 2, none⟩ = some z := by
  refine ⟨?_, ?_, ?_⟩ <;> simp [World.cell?, h]
theorem row_slice {w : World} {base : Nat} {e : TypeId} {v : Value} {L : List Value} (h : w.ownsRow base e 1 v L.length L) :
    ∃ ao cap, v = .slice ao L.length cap ∧ (0 < L.length → ∃ R, ao = some ⟨R, 0, none⟩ ∧ ∀ i (hi : i < L.length), w.cell? ⟨R, i, none⟩ = some L[i]) := by
  have h' := h
  rcases h.2 with ⟨rfl, h0⟩ | ⟨g, cap, cur, rfl, _⟩
  · exact ⟨none, 0, by rw [h0], fun h => by omega⟩
  · refine ⟨_, cap, rfl, fun _ => ⟨g, rfl, fun i hi => ?_⟩⟩
    rw [h'.cellAt i (by omega), List.getElem?_eq_getElem hi]

set_option maxRecDepth 100000 in
set_option maxHeartbeats 1000000 in
theorem staysI_any (K base top : Nat) (L : List Value) (w : World) (hk : BookI w K base top L) (hL : L.length ≤ 100000000) :
    Calls Try.prog 8 #[.pointer (some ⟨K, 0, none⟩)] w fun e w' => e = .returned (.bool true) ∧ w' = w := by
  obtain ⟨⟨kv, hb, hrow⟩, hlists, _⟩ := hk
  obtain ⟨c0, c1, c2⟩ := cells_of_three hb
  obtain ⟨ao, cap, rfl, hcells⟩ := row_slice hrow
  have HC := hide hcells
  have HL := hide hlists
  clear hcells hlists hrow hb
  go_enter Try.func8, Try.ntmps8
  go_wp2
  go_loop [3] (fun i => ∃ k : Nat, k ≤ L.length ∧ i = .int .i64 (k : Int)) (fun i => L.length - (intOf i).toNat)
  case atStart => exact ⟨0, by omega, rfl⟩
  case round =>
    obtain ⟨k, hk, rfl⟩ := hrel
    by_cases hlt : k < L.length
    · obtain ⟨R, rfl, hcell⟩ := HC.out (by omega)
      have ck := hcell k hlt
      obtain ⟨ao2, n, cap2, hv, hn, hel⟩ := (HL.out k hlt).slice
      rw [hv] at ck
      have HEL := hide hel
      clear hcell hel
      have hkB : decide ((k : Int) < (L.length : Int)) = true := by simp; omega
      go_wp2
      go_loop [4] (fun i => ∃ j : Nat, j ≤ n ∧ i = .int .i64 (j : Int)) (fun i => n - (intOf i).toNat)
      case atStart => exact ⟨0, by omega, rfl⟩
      case round =>
        obtain ⟨j, hj, rfl⟩ := hrel
        by_cases hjl : j < n
        · obtain ⟨g, rfl, hcj⟩ := HEL.out (by omega)
          have cj := hcj j hjl
          have hx : markOf k = -1 - (k : Int) / 4 * 4 := by unfold markOf; simp
          rw [hx] at cj
          clear hx hcj
          go_wp2
          go_round
          case rel => exact ⟨j + 1, by omega, by go_num⟩
          case measure => simp [intOf]; omega
        · go_wp2
          go_round
          case rel => exact ⟨k + 1, by omega, by go_num⟩
          case measure => simp [intOf]; omega
    · go_wp2
      refine wp_loop_rounds 1 ?_
      rw [rounds_succ]
      go_wp2
      refine wp_loop_rounds 1 ?_
      rw [rounds_succ]
      go_wp2
      go_ret
      exact ⟨rfl, rfl⟩
end Go.Proofs.Ytlkhmldceekdaaa

/- The law's keepInts. -/
namespace Go.Proofs.Ytlkhmldceekdaaa
open Go.RowKit Go.Shelf
set_option linter.unusedVariables false

theorem Try.info45 : (Try.prog.info? 45).map (fun i => (i.zero, i.size, i.bytes)) = some (some (.slice none 0 0), 1, 24) := by kernel_rfl

/-- what is handed to keepInts: nothing, or a list of the call's own without spare room, its array from block 'top' on -/
def Fresh (w : World) (top : Nat) (v : Value) (n : Nat) (xs : List Value) : Prop :=
  (v = .slice none 0 0 ∧ n = 0 ∧ xs = []) ∨ ∃ g, v = .slice (some ⟨g, 0, none⟩) n n ∧ top ≤ g ∧ w.ownsRow 0 3 1 v n xs

theorem Fresh.slice {w : World} {top n : Nat} {v : Value} {xs : List Value} (h : Fresh w top v n xs) : ∃ ao, v = .slice ao n n ∧ (ao = none → n = 0) := by
  rcases h with ⟨rfl, rfl, _⟩ | ⟨g, rfl, _⟩
  · exact ⟨none, rfl, fun _ => rfl⟩
  · exact ⟨_, rfl, fun h => by cases h⟩

/-- a store into a fresh list's array leaves the book -/
theorem BookI.setCell {w : World} {K base top g j : Nat} {L : List Value} {u : Value} (h : BookI w K base top L) {cur : Array Value} (hg : w.heap[g]? = some (.cells cur 3 (0, 0))) (ht : top ≤ g) : BookI (w.setCell ⟨g, j, none⟩ u) K base top L := by
  obtain ⟨⟨kv, h1, h2⟩, h3, h4⟩ := h
  have hgr : w.grownBy (w.setCell ⟨g, j, none⟩ u) (some g) := ⟨rfl, rfl, rfl, (KeepsWalks.setCell w _ u).size, fun k _ hk => Below.heap_setCell _ _ _ k (fun e => hk (by rw [e]))⟩
  refine ⟨⟨kv, ?_, h2.kept hgr ?_⟩, fun i hi => (h3 i hi).kept hgr ?_, Nat.le_trans h4 hgr.size⟩
  · refine (hgr.block K (lt_of_block h1) ?_).trans h1
    intro e
    obtain rfl : K = g := by simpa using e
    rw [h1] at hg; simp at hg
  · rcases h2.2 with ⟨rfl, _⟩ | ⟨R, cap, cu, rfl, _, hR, _⟩
    · exact .inl rfl
    · refine .inr fun e => ?_
      obtain rfl : R = g := by simpa [Value.ownBlock] using e
      rw [hR] at hg; simp at hg
  · cases hv : (L[i]).ownBlock with
    | none => exact .inl rfl
    | some b =>
      refine .inr fun e => ?_
      obtain ⟨_, _, _, hb⟩ := h3 i hi
      have := hb b hv
      simp at e
      omega

theorem heap_set3 {w : World} {b : Nat} {x y z u : Value} {t : TypeId} (h : w.heap[b]? = some (.cells #[x, y, z] t (0, 0))) : (w.setCell ⟨b, 0, none⟩ u).heap[b]? = some (.cells #[u, y, z] t (0, 0)) := by
  obtain ⟨hlt, hk⟩ := Array.getElem?_eq_some_iff.1 h
  show (w.heap.modify b _)[b]? = _
  rw [Array.getElem?_eq_getElem (by rw [Array.size_modify]; exact hlt), Array.getElem_modify_self, hk]
  rfl
theorem grownBy_setCellAt (W : World) (b j : Nat) (v : Value) : W.grownBy (W.setCell ⟨b, j, none⟩ v) (some b) :=
  ⟨rfl, rfl, rfl, (KeepsWalks.setCell W _ v).size, fun k _ hk => Below.heap_setCell _ _ _ k (fun e => hk (by rw [e]))⟩
/-- a list of numbers is no block of another kind -/
theorem Marked.ne {w : World} {top : Nat} {v : Value} {x : Int} {b : Nat} {cs : Array Value} {t : TypeId} (h : Marked w top v x) (hb : w.heap[b]? = some (.cells cs t (0, 0))) (ht : t ≠ 3) : v.ownBlock = none ∨ v.ownBlock ≠ some b := by
  obtain ⟨n, hown, _⟩ := h
  rcases hown.2 with ⟨rfl, _⟩ | ⟨g, cap, cur, rfl, _, hg, _⟩
  · exact .inl rfl
  · refine .inr fun e => ?_
    obtain rfl : g = b := by simpa [Value.ownBlock] using e
    rw [hg] at hb
    simp at hb
    exact ht hb.2.symm
theorem Marked.ne_row {w : World} {top base n : Nat} {v kv : Value} {x : Int} {L : List Value} {t : TypeId} (h : Marked w top v x) (hr : w.ownsRow base t 1 kv n L) (ht : t ≠ 3) : v.ownBlock = none ∨ v.ownBlock ≠ kv.ownBlock := by
  rcases hr.2 with ⟨rfl, _⟩ | ⟨R, cap, cur, rfl, _, hR, _⟩
  · cases hv : v.ownBlock with
    | none => exact .inl rfl
    | some g => exact .inr (by simp [Value.ownBlock])
  · exact h.ne hR ht

theorem book_grown {w w5 : World} {K base n : Nat} {L : List Value} {kv a b : Value} {tmp : Obj} {t : TypeId} (hkv : w.heap[K]? = some (.cells #[kv, a, b] 28 (0, 0))) (hrow : w.ownsRow base t 1 kv n L) (ht : 28 ≠ t) (hgrow : (w.alloc tmp).grownBy w5 kv.ownBlock) :
    w5.heap[K]? = some (.cells #[kv, a, b] 28 (0, 0)) := by
  have hg1 := World.grownBy_alloc w tmp none
  have hK1 : (w.alloc tmp).heap[K]? = some (.cells #[kv, a, b] 28 (0, 0)) := (hg1.block K (lt_of_block hkv) (by simp)).trans hkv
  refine (hgrow.block K (lt_of_block hK1) ?_).trans hK1
  rcases (hrow.alloc tmp).2 with ⟨rfl, _⟩ | ⟨R, cap, cur, rfl, _, hR, _⟩
  · simp [Value.ownBlock]
  · intro e
    obtain rfl : K = R := by simpa [Value.ownBlock] using e
    rw [hK1] at hR
    simp at hR
    exact ht hR.2
theorem free_of_three {w : World} {b j : Nat} {x y z : Value} {t : TypeId} (h : w.heap[b]? = some (.cells #[x, y, z] t (0, 0))) : w.frozen? ⟨b, j, none⟩ = false := by simp [World.frozen?, h]
/-- FOUR LISTS MORE. -/
theorem BookI.push {w w5 : World} {K base top : Nat} {L N : List Value} {kv kv' : Value} {tmp : Obj} (h : BookI w K base top L)
    (hkv : w.heap[K]? = some (.cells #[kv, .slice none 0 0, .slice none 0 0] 28 (0, 0))) (hrow : w.ownsRow base 45 1 kv L.length L)
    (hN : ∀ i (hi : i < N.length), Marked w w.heap.size N[i] (markOf (L.length + i)))
    (hown : w5.ownsRow base 45 1 kv' (L.length + N.length) (L ++ N)) (hgrow : (w.alloc tmp).grownBy w5 kv.ownBlock) :
    BookI (w5.setCell ⟨K, 0, none⟩ kv') K base (w5.setCell ⟨K, 0, none⟩ kv').heap.size (L ++ N) := by
  have hg1 := World.grownBy_alloc w tmp none
  have hK1 : (w.alloc tmp).heap[K]? = some (.cells #[kv, .slice none 0 0, .slice none 0 0] 28 (0, 0)) := (hg1.block K (lt_of_block hkv) (by simp)).trans hkv
  have hr1 := hrow.alloc tmp
  have hK5 : w5.heap[K]? = some (.cells #[kv, .slice none 0 0, .slice none 0 0] 28 (0, 0)) := by
    refine (hgrow.block K (lt_of_block hK1) ?_).trans hK1
    rcases hr1.2 with ⟨rfl, _⟩ | ⟨R, cap, cur, rfl, _, hR, _⟩
    · simp [Value.ownBlock]
    · intro e
      obtain rfl : K = R := by simpa [Value.ownBlock] using e
      rw [hK1] at hR; simp at hR
  have hgs := grownBy_setCellAt w5 K 0 kv'
  have hkeep : ∀ v x, Marked w w.heap.size v x → Marked (w5.setCell ⟨K, 0, none⟩ kv') (w5.setCell ⟨K, 0, none⟩ kv').heap.size v x := by
    intro v x hm
    have m1 : Marked (w.alloc tmp) w.heap.size v x := hm.kept hg1 (by cases hv : v.ownBlock with
      | none => exact .inl rfl
      | some g => exact .inr (by simp))
    have m2 := m1.kept hgrow (m1.ne_row hr1 (by decide))
    have m3 := m2.kept hgs (m2.ne hK5 (by decide))
    refine m3.mono (Nat.le_trans hg1.size (Nat.le_trans hgrow.size hgs.size))
  refine ⟨⟨kv', heap_set3 hK5, ?_⟩, fun i hi => ?_, Nat.le_refl _⟩
  · rw [List.length_append]
    refine hown.kept hgs ?_
    rcases hown.2 with ⟨rfl, _⟩ | ⟨R, cap, cur, rfl, _, hR, _⟩
    · exact .inl rfl
    · refine .inr fun e => ?_
      obtain rfl : R = K := by simpa [Value.ownBlock] using e
      rw [hK5] at hR; simp at hR
  · by_cases hlt : i < L.length
    · have h1 := hkeep _ _ ((h.lists i hlt).mono h.top_le)
      rw [List.getElem_append_left hlt]
      exact h1
    · have h2 : i - L.length < N.length := by rw [List.length_append] at hi; omega
      have h1 := hkeep _ _ (hN (i - L.length) h2)
      rw [List.getElem_append_right (by omega)]
      rw [show L.length + (i - L.length) = i by omega] at h1
      exact h1
theorem set_step {X : Value} {xs : List Value} {k : Nat} (hk : k < xs.length) : (List.replicate k X ++ xs.drop k).set k X = List.replicate (k + 1) X ++ xs.drop (k + 1) := by
  rw [List.set_append_right _ _ (by simp)]
  simp only [List.length_replicate, Nat.sub_self]
  rw [List.drop_eq_getElem_cons hk, List.set_cons_zero, List.replicate_succ', List.append_assoc]
  rfl
theorem markOf_four {n i : Nat} (h : n % 4 = 0) (hi : i < 4) : markOf (n + i) = -1 - (n : Int) := by
  unfold markOf
  have : (n + i) / 4 * 4 = n := by omega
  rw [this]
end Go.Proofs.Ytlkhmldceekdaaa

/- The law's keepInts, walked. -/
namespace Go.Proofs.Ytlkhmldceekdaaa
open Go.RowKit Go.Shelf
set_option linter.unusedVariables false

theorem cell_four_new (w : World) (a b c d : Value) (t : TypeId) : ∀ j u, [a, b, c, d][j]? = some u → (w.alloc (.cells #[a, b, c, d] t)).cell? ((⟨w.heap.size, 0, none⟩ : Addr).add j) = some u := by
  intro j u hj
  match j, hj with
  | 0, hj => simp at hj; subst hj; simp [Addr.add]
  | 1, hj => simp at hj; subst hj; simp [Addr.add]
  | 2, hj => simp at hj; subst hj; simp [Addr.add]
  | 3, hj => simp at hj; subst hj; simp [Addr.add]
  | n + 4, hj => simp at hj
theorem holds_of {w : World} {base n cap : Nat} {ao : Option Addr} {xs : List Value} (h : w.ownsRow base 3 1 (.slice ao n cap) n xs) : ∀ b, ao = some b → ∀ j u, xs[j]? = some u → w.cell? (b.add j) = some u := by
  intro b hb j u hj
  subst hb
  rcases h.2 with ⟨e, _⟩ | ⟨g, cp, cur, e, _⟩
  · cases e
  · injection e with e1 e2 e3
    cases e1
    exact h.cells rfl j u hj
theorem below_of_none {w w' : World} (h : w.grownBy w' none) : Below w.heap.size w w' := ⟨h.os, h.tape, h.output, h.size, fun k hk => h.block k hk (by simp)⟩
/-- an append that had to grow, behind the making of what is appended: nothing old has turned -/
theorem below_grows {w w' : World} {tmp : Obj} (h : (w.alloc tmp).grownBy w' none) : Below w.heap.size w w' :=
  ((Below.refl w.heap.size w).alloc (Nat.le_refl _) tmp).grown h (by simp) (fun k e => by cases e)
theorem marked_of {w : World} {base n k : Nat} {v : Value} {X : Int} (h : w.ownsRow base 3 1 v (n + k) (List.replicate n (.int .i64 X) ++ List.replicate k (.int .i64 X))) (hn : n + k ≤ 1000) : Marked w w.heap.size v X := by
  rw [List.replicate_append_replicate] at h
  exact ⟨n + k, ownsRow_mono h (Nat.zero_le _), hn, fun g hg => (h.lt g hg).2⟩

set_option maxRecDepth 100000 in
set_option maxHeartbeats 2000000 in
theorem keepInts_any (K base top n : Nat) (L xs : List Value) (v : Value) (w : World) (hk : BookI w K base top L) (hv : Fresh w top v n xs) (hxs : xs.length = n) (hn : n ≤ 900) (hL : L.length ≤ 100000000) (h4 : L.length % 4 = 0) (hbK : base ≤ K) (hbt : base ≤ top) :
    Calls Try.prog 14 #[.pointer (some ⟨K, 0, none⟩), v] w fun e w' => e = .returned (.tuple #[]) ∧ Below base w w' ∧ ∃ L', BookI w' K base w'.heap.size L' ∧ L'.length = L.length + 4 := by
  obtain ⟨i0, hi, hz0, hz1, hz2⟩ := info_parts Try.info3
  obtain ⟨i5, hi5, hy0, hy1, hy2⟩ := info_parts Try.info45
  obtain ⟨ao, rfl, hao⟩ := hv.slice
  have hown0 : w.ownsRow 0 3 1 (.slice ao n n) n xs := by
    rcases hv with ⟨e, rfl, rfl⟩ | ⟨g, _, _, h⟩
    · rw [e]; exact World.ownsRow_nil _ _ _ _
    · exact h
  have HV := hide hv
  have HAO := hide hao
  obtain ⟨kv, hkb, hkr⟩ := hk.book
  obtain ⟨ko, kc, rfl, _⟩ := row_slice hkr
  have ck := (cells_of_three hkb).1
  have HK := hide hk
  have htop := hk.top_le
  have HXS := hide hxs
  have H4 := hide h4
  clear hv hao hkb hkr hk hxs h4
  go_enter Try.func14, Try.ntmps14
  go_wp2
  go_loopw [5] (fun i wr => ∃ (k : Nat), k ≤ n ∧ i = .int .i64 (k : Int) ∧ wr.ownsRow 0 3 1 (.slice ao n n) n (List.replicate k (.int .i64 (-1 - (L.length : Int))) ++ xs.drop k) ∧ BookI wr K base top L ∧ Below base w wr) (fun i _ => n - (intOf i).toNat)
  case atStart => exact ⟨0, by omega, rfl, by simpa using hown0, HK.out, Below.refl _ _⟩
  case round =>
    obtain ⟨k, hkn, rfl, hown, hbk, hB⟩ := hrel
    by_cases hlt : k < n
    · rcases HV.out with ⟨e, e2, _⟩ | ⟨g, e, hg, _⟩
      · omega
      injection e with e1 e2 e3
      subst e1
      have hc := hown.cellAt k (by omega)
      have hf := hown.frozenAt k
      have hst := hown.stored k (.int .i64 (-1 - (L.length : Int)))
      have hset := set_step (X := .int .i64 (-1 - (L.length : Int))) (xs := xs) (k := k) (by rw [HXS.out]; exact hlt)
      rw [hset] at hst
      obtain ⟨cv, hcv⟩ : ∃ cv, (List.replicate k (Value.int .i64 (-1 - (L.length : Int))) ++ xs.drop k)[k]? = some cv := by
        have hl := HXS.out
        exact ⟨_, List.getElem?_eq_getElem (by simp; omega)⟩
      rw [hcv] at hc
      have hblk : ∃ cur, wr.heap[g]? = some (.cells cur 3 (0, 0)) := by
        rcases hown.2 with ⟨e, _⟩ | ⟨g', c', cur, e, _, hh, _⟩
        · cases e
        · injection e with e1 e2 e3
          cases e1
          exact ⟨cur, hh⟩
      obtain ⟨cur, hblk⟩ := hblk
      have hbk2 := hbk.setCell (j := k) (u := .int .i64 (-1 - (L.length : Int))) hblk hg
      have HST := hide hst
      have HBK := hide hbk2
      clear hst hset hcv hbk2 hbk
      go_wp2
      go_roundw
      case rel => exact ⟨k + 1, by omega, by go_num, HST.out.1, HBK.out, hB.setCell (p := ⟨g, k, none⟩) (Nat.le_trans hbt hg) _⟩
      case measure => simp [intOf]; omega
    · have hrep : List.replicate k (Value.int .i64 (-1 - (L.length : Int))) ++ xs.drop k = List.replicate n (.int .i64 (-1 - (L.length : Int))) := by
        have e : k = n := by omega
        have hl := HXS.out
        rw [e, List.drop_eq_nil_iff.2 (by omega), List.append_nil]
      rw [hrep] at hown
      clear hrep
      have hsz := hB.size
      go_wp2_with (first
        | (at_builtin; refine wpList_append_grows _ rfl (.tmp 25) (.tmp 27) 45 rfl 3 i0 (.int .i64 0) 1 8 Try.underlying45 hi hz0 hz1 hz2 rfl (by decide) ao n n (List.replicate n (.int .i64 (-1 - (L.length : Int)))) rfl (fun h => ⟨HAO.out h, HAO.out h⟩) (by simp) (holds_of (World.ownsRow.alloc hown _)) ⟨_, 0, none⟩ 1 1 [(.int .i64 (-1 - (L.length : Int)))] rfl rfl (cell_one_new _ _ _) (by simp [Value.oneCell']) (by omega) (by unfold maxLen; omega) (by omega) ?_; intro v1 w1 hown1 hgrow1; obtain ⟨g1, c1, rfl⟩ := ownsRow_succ hown1; have bl1 := below_grows hgrow1; have o1 := ownsRow_below hown bl1)
        | (at_builtin; refine wpList_append_grows _ rfl (.tmp 29) (.tmp 32) 45 rfl 3 i0 (.int .i64 0) 1 8 Try.underlying45 hi hz0 hz1 hz2 rfl (by decide) ao n n (List.replicate n (.int .i64 (-1 - (L.length : Int)))) rfl (fun h => ⟨HAO.out h, HAO.out h⟩) (by simp) (holds_of (World.ownsRow.alloc o1 _)) ⟨_, 0, none⟩ 2 2 [(.int .i64 (-1 - (L.length : Int))), (.int .i64 (-1 - (L.length : Int)))] rfl rfl (cell_two_new _ _ _ _) (by simp [Value.oneCell']) (by omega) (by unfold maxLen; omega) (by omega) ?_; intro v2 w2 hown2 hgrow2; obtain ⟨g2, c2, rfl⟩ := ownsRow_succ hown2; have bl2 := below_grows hgrow2; have o2 := ownsRow_below o1 bl2)
        | (at_builtin; refine wpList_append_grows _ rfl (.tmp 34) (.tmp 38) 45 rfl 3 i0 (.int .i64 0) 1 8 Try.underlying45 hi hz0 hz1 hz2 rfl (by decide) ao n n (List.replicate n (.int .i64 (-1 - (L.length : Int)))) rfl (fun h => ⟨HAO.out h, HAO.out h⟩) (by simp) (holds_of (World.ownsRow.alloc o2 _)) ⟨_, 0, none⟩ 3 3 [(.int .i64 (-1 - (L.length : Int))), (.int .i64 (-1 - (L.length : Int))), (.int .i64 (-1 - (L.length : Int)))] rfl rfl (cell_three_new _ _ _ _ _) (by simp [Value.oneCell']) (by omega) (by unfold maxLen; omega) (by omega) ?_; intro v3 w3 hown3 hgrow3; obtain ⟨g3, c3, rfl⟩ := ownsRow_succ hown3; have bl3 := below_grows hgrow3; have o3 := ownsRow_below o2 bl3; have bk3 := ((hbk.below bl1).below bl2).below bl3; obtain ⟨kv3, hkb3, hkr3⟩ := bk3.book; obtain ⟨ko3, kc3, rfl, _⟩ := row_slice hkr3; have ck3 := (cells_of_three hkb3).1)
        | (at_builtin; refine wpList_append_own _ rfl (.tmp 44) (.tmp 49) 24 rfl base 45 i5 (.slice none 0 0) 1 24 Try.underlying24 hi5 hy0 hy1 hy2 rfl (by decide) _ _ _ rfl (World.ownsRow.alloc hkr3 _) ⟨_, 0, none⟩ 4 4 [.slice ao n n, .slice (some ⟨g1, 0, none⟩) (n + 1) c1, .slice (some ⟨g2, 0, none⟩) (n + 2) c2, .slice (some ⟨g3, 0, none⟩) (n + 3) c3] rfl rfl (cell_four_new _ _ _ _ _ _) (by simp [Value.oneCell']) (by unfold maxLen; omega) (by omega) (by have h1 := bl1.size; have h2 := bl2.size; have h3 := bl3.size; simp; omega) ?_; intro v4 w4 hown4 hgrow4 _; obtain ⟨g4, c4, rfl⟩ := ownsRow_succ hown4; have hK4 := book_grown hkb3 hkr3 (by decide) hgrow4; have ck4 := (cells_of_three hK4).1; have cf4 := free_of_three (j := 0) hK4))
      go_end0
      have s1 := bl1.size
      have s2 := bl2.size
      have s3 := bl3.size
      have r1 : List.replicate n (Value.int .i64 (-1 - (L.length : Int))) ++ [.int .i64 (-1 - (L.length : Int))] = List.replicate n (.int .i64 (-1 - (L.length : Int))) ++ List.replicate 1 (.int .i64 (-1 - (L.length : Int))) := rfl
      have r2 : List.replicate n (Value.int .i64 (-1 - (L.length : Int))) ++ [.int .i64 (-1 - (L.length : Int)), .int .i64 (-1 - (L.length : Int))] = List.replicate n (.int .i64 (-1 - (L.length : Int))) ++ List.replicate 2 (.int .i64 (-1 - (L.length : Int))) := rfl
      have r3 : List.replicate n (Value.int .i64 (-1 - (L.length : Int))) ++ [.int .i64 (-1 - (L.length : Int)), .int .i64 (-1 - (L.length : Int)), .int .i64 (-1 - (L.length : Int))] = List.replicate n (.int .i64 (-1 - (L.length : Int))) ++ List.replicate 3 (.int .i64 (-1 - (L.length : Int))) := rfl
      rw [r1] at hown1
      rw [r2] at hown2
      rw [r3] at hown3
      have b13 : Below w1.heap.size w1 w3 := bl2.trans (bl3.mono s2)
      have m0 : Marked w3 w3.heap.size (.slice ao n n) (-1 - (L.length : Int)) := ⟨n, o3, by omega, fun g hg => (o3.lt g hg).2⟩
      have m1 : Marked w3 w3.heap.size (.slice (some ⟨g1, 0, none⟩) (n + 1) c1) (-1 - (L.length : Int)) := marked_of (ownsRow_below hown1 b13) (by omega)
      have m2 : Marked w3 w3.heap.size (.slice (some ⟨g2, 0, none⟩) (n + 2) c2) (-1 - (L.length : Int)) := marked_of (ownsRow_below hown2 bl3) (by omega)
      have m3 : Marked w3 w3.heap.size (.slice (some ⟨g3, 0, none⟩) (n + 3) c3) (-1 - (L.length : Int)) := marked_of hown3 (by omega)
      have hP := bk3.push hkb3 hkr3 (N := [.slice ao n n, .slice (some ⟨g1, 0, none⟩) (n + 1) c1, .slice (some ⟨g2, 0, none⟩) (n + 2) c2, .slice (some ⟨g3, 0, none⟩) (n + 3) c3]) (by
        intro i hi
        match i, hi with
        | 0, _ => rw [markOf_four H4.out (by omega)]; exact m0
        | 1, _ => rw [markOf_four H4.out (by omega)]; exact m1
        | 2, _ => rw [markOf_four H4.out (by omega)]; exact m2
        | 3, _ => rw [markOf_four H4.out (by omega)]; exact m3
        | i + 4, hi => exact absurd hi (by simp)) hown4 hgrow4
      have bw3 : Below base w w3 := ((hB.trans (bl1.mono (by omega))).trans (bl2.mono (by omega))).trans (bl3.mono (by omega))
      have bw4 : Below base w w4 := (bw3.alloc (by omega) _).grown hgrow4 (by simp; omega) (fun k hk => (hkr3.lt k hk).1)
      exact ⟨rfl, bw4.setCell (p := ⟨K, 0, none⟩) hbK _, _, hP, by simp⟩
end Go.Proofs.Ytlkhmldceekdaaa

/- The law's chain: Members and Leader against the document's. -/
namespace Go.Proofs.Ytlkhmldceekdaaa
open Go.RowKit Go.Shelf
set_option linter.unusedVariables false

theorem mem_cfg (n : Int) (c : ByteArray) (w : World) (hc : c.size ≤ maxLen) (h : ¬ (4 ≤ n ∧ n ≤ 7)) :
    Calls Try.prog 9 #[.int .i64 n, .string c] w fun e w' => e = .returned (.tuple #[.slice none 0 0, .int .i64 1]) ∧ Below w.heap.size w w' := by
  refine (members_any n c w hc).mono ?_
  rintro e w' ⟨v, rfl, hb, _, hn⟩
  rw [hn (if_neg h), show memErr n c = 1 from if_neg h]
  exact ⟨rfl, hb⟩
theorem mem_none (m : Nat) (c : ByteArray) (w : World) (hc : c.size ≤ maxLen) (h : 4 ≤ (m : Int) ∧ (m : Int) ≤ 7) (hm : members m c = none) :
    Calls Try.prog 9 #[.int .i64 (m : Int), .string c] w fun e w' => e = .returned (.tuple #[.slice none 0 0, .int .i64 5]) ∧ Below w.heap.size w w' := by
  refine (members_any m c w hc).mono ?_
  rintro e w' ⟨v, rfl, hb, _, hn⟩
  have h1 : memO m c = none := by unfold memO; rw [if_pos h, Int.toNat_natCast, hm]
  have h2 : memErr m c = 5 := by unfold memErr; rw [if_pos h, Int.toNat_natCast, hm]; rfl
  rw [hn h1, h2]
  exact ⟨rfl, hb⟩
theorem mem_some (m s z : Nat) (c : ByteArray) (w : World) (hc : c.size ≤ maxLen) (h : 4 ≤ (m : Int) ∧ (m : Int) ≤ 7) (hm : members m c = some s) (hz : sizeS s = z) :
    Calls Try.prog 9 #[.int .i64 (m : Int), .string c] w fun e w' => ∃ g, e = .returned (.tuple #[.slice (some ⟨g, 0, none⟩) z z, .int .i64 0]) ∧ OwnInts w' w.heap.size (.slice (some ⟨g, 0, none⟩) z z) (listed s) ∧ Below w.heap.size w w' := by
  refine (members_any m c w hc).mono ?_
  rintro e w' ⟨v, rfl, hb, hs, _⟩
  have h1 : memO m c = some s := by unfold memO; rw [if_pos h, Int.toNat_natCast, hm]
  have h2 : memErr m c = 0 := by unfold memErr; rw [if_pos h, Int.toNat_natCast, hm]; rfl
  obtain ⟨⟨g, rfl⟩, hown⟩ := hs s h1
  rw [h2]
  rw [hz] at hown ⊢
  exact ⟨g, rfl, hown, hb⟩
theorem lead_is (a b n r : Int) (c : ByteArray) (w : World) (hc : c.size ≤ maxLen) (h : leadRes n r c = (a, b)) :
    Calls Try.prog 10 #[.int .i64 n, .string c, .int .i64 r] w fun e w' => e = .returned (.tuple #[.int .i64 a, .int .i64 b]) ∧ Below w.heap.size w w' := by
  have := leader_any n r c w hc
  rw [h] at this
  exact this
theorem ref_none (m : Nat) (c : ByteArray) (w : World) (h4 : 4 ≤ m) (h8 : m < 8) (hc : c.size ≤ maxLen) (hm : members m c = none) :
    Calls Try.prog 11 #[.int .i64 (m : Int), .string c] w fun e w' => e = .returned (.tuple #[.slice none 0 0, .bool false]) ∧ Below w.heap.size w w' := by
  refine (refMembers_any m c w h4 h8 hc).mono ?_
  rintro e w' ⟨v, rfl, hb, _, hn⟩
  rw [hn hm, hm]
  exact ⟨rfl, hb⟩
theorem ref_some (m s : Nat) (c : ByteArray) (w : World) (h4 : 4 ≤ m) (h8 : m < 8) (hc : c.size ≤ maxLen) (hm : members m c = some s) :
    Calls Try.prog 11 #[.int .i64 (m : Int), .string c] w fun e w' => ∃ v, e = .returned (.tuple #[v, .bool true]) ∧ OwnInts w' w.heap.size v (listed s) ∧ Below w.heap.size w w' := by
  refine (refMembers_any m c w h4 h8 hc).mono ?_
  rintro e w' ⟨v, rfl, hb, hs, _⟩
  rw [hm]
  exact ⟨v, rfl, hs s hm, hb⟩
theorem refLead_is (a : Nat) (s base : Nat) (v : Value) (c : ByteArray) (r : Int) (w : World) (hc : c.size ≤ 18) (hr0 : 0 ≤ r) (hr : r ≤ 9) (hs : 0 < sizeS s) (hv : OwnInts w base v (listed s)) (h : leaderOf s (c.size / 3 + 1 + r.toNat) = a) :
    Calls Try.prog 12 #[v, .string c, .int .i64 r] w fun e w' => e = .returned (.int .i64 (a : Int)) ∧ w' = w := by
  obtain ⟨q, rfl⟩ := Int.eq_ofNat_of_zero_le hr0
  rw [Int.toNat_natCast] at h
  rw [← h]
  exact refLeader_any s base v c q w hc (by omega) hs hv

/-- behind the calls: the list is put into the book, and the book stays -/
def ChainPost (K base : Nat) (L : List Value) (w : World) (e : Ending) (w' : World) : Prop :=
  e = .returned (.bool true) ∧ Below base w w' ∧ ∃ L', BookI w' K base w'.heap.size L' ∧ L'.length = L.length + 4

set_option maxRecDepth 100000 in
set_option maxHeartbeats 2000000 in
theorem chain_cfg (K base : Nat) (L : List Value) (n r : Int) (c : ByteArray) (w : World) (hk : BookI w K base w.heap.size L) (hL : L.length ≤ 90000000) (h4 : L.length % 4 = 0) (hbK : base ≤ K) (hbw : base ≤ w.heap.size) (hc : c.size ≤ maxLen)
    (hn : ¬ (4 ≤ n ∧ n ≤ 7)) : Calls Try.prog 5 #[.pointer (some ⟨K, 0, none⟩), .int .i64 n, .string c, .int .i64 r] w (ChainPost K base L w) := by
  have HL := hide (leadRes_cfg (r := r) (c := c) hn)
  have HN := hide hn
  have HK := hide hk
  have H4 := hide h4
  clear hk h4
  by_cases h1 : n < 4
  · have h1B : decide (4 ≤ n) = false := by simp; omega
    clear hn
    go_enter Try.func5, Try.ntmps5
    go_wp2_with (first
      | (go_at_call 9; refine (mem_cfg n c _ hc HN.out).mono ?_; rintro e w1 ⟨rfl, hb1⟩; have bk1 := hide (HK.out.below hb1))
      | (go_at_call 10; refine (lead_is 0 1 _ r c _ hc HL.out).mono ?_; rintro e w2 ⟨rfl, hb2⟩; have bk2 := hide (bk1.out.below hb2))
      | (go_at_call 13; refine (sameInts_same [] _ _ _ (.inl ⟨rfl, rfl⟩) (.inl ⟨rfl, rfl⟩) (by simp)).mono ?_; rintro e w4 ⟨rfl, hb4⟩; have bk4 := hide (bk2.out.below hb4))
      | (go_at_call 14; refine (keepInts_any K base w.heap.size 0 L [] _ _ bk4.out (.inl ⟨rfl, rfl, rfl⟩) rfl (by omega) (by omega) H4.out hbK hbw).mono ?_; rintro e w5 ⟨rfl, hb5, L', bk5, hl5⟩; have BK5 := hide bk5; have HL5 := hide hl5; clear bk5 hl5)
      | (go_at_call 8; refine (staysI_any K base _ _ _ BK5.out (by rw [HL5.out]; omega)).mono ?_; rintro e w6 ⟨rfl, rfl⟩))
    go_ret
    have s1 := hb1.size
    have s2 := hb2.size
    have s4 := hb4.size
    exact ⟨rfl, (((hb1.mono hbw).trans (hb2.mono (by omega))).trans (hb4.mono (by omega))).trans hb5, L', BK5.out, HL5.out⟩
  · have h2 : 7 < n := by omega
    clear hn
    go_enter Try.func5, Try.ntmps5
    go_wp2_with (first
      | (go_at_call 9; refine (mem_cfg n c _ hc HN.out).mono ?_; rintro e w1 ⟨rfl, hb1⟩; have bk1 := hide (HK.out.below hb1))
      | (go_at_call 10; refine (lead_is 0 1 _ r c _ hc HL.out).mono ?_; rintro e w2 ⟨rfl, hb2⟩; have bk2 := hide (bk1.out.below hb2))
      | (go_at_call 13; refine (sameInts_same [] _ _ _ (.inl ⟨rfl, rfl⟩) (.inl ⟨rfl, rfl⟩) (by simp)).mono ?_; rintro e w4 ⟨rfl, hb4⟩; have bk4 := hide (bk2.out.below hb4))
      | (go_at_call 14; refine (keepInts_any K base w.heap.size 0 L [] _ _ bk4.out (.inl ⟨rfl, rfl, rfl⟩) rfl (by omega) (by omega) H4.out hbK hbw).mono ?_; rintro e w5 ⟨rfl, hb5, L', bk5, hl5⟩; have BK5 := hide bk5; have HL5 := hide hl5; clear bk5 hl5)
      | (go_at_call 8; refine (staysI_any K base _ _ _ BK5.out (by rw [HL5.out]; omega)).mono ?_; rintro e w6 ⟨rfl, rfl⟩))
    go_ret
    have s1 := hb1.size
    have s2 := hb2.size
    have s4 := hb4.size
    exact ⟨rfl, (((hb1.mono hbw).trans (hb2.mono (by omega))).trans (hb4.mono (by omega))).trans hb5, L', BK5.out, HL5.out⟩

set_option maxRecDepth 100000 in
set_option maxHeartbeats 2000000 in
theorem chain_none (K base : Nat) (L : List Value) (m : Nat) (r : Int) (c : ByteArray) (w : World) (hk : BookI w K base w.heap.size L) (hL : L.length ≤ 90000000) (h4 : L.length % 4 = 0) (hbK : base ≤ K) (hbw : base ≤ w.heap.size) (hc : c.size ≤ maxLen)
    (hn : 4 ≤ (m : Int) ∧ (m : Int) ≤ 7) (hm : members m c = none) : Calls Try.prog 5 #[.pointer (some ⟨K, 0, none⟩), .int .i64 (m : Int), .string c, .int .i64 r] w (ChainPost K base L w) := by
  have HL := hide (leadRes_chain (r := r) hn hm)
  have HN := hide hn
  have HM := hide hm
  have m4 : 4 ≤ m := by omega
  have m8 : m < 8 := by omega
  have HK := hide hk
  have H4 := hide h4
  clear hk h4
  clear hm hn
  go_enter Try.func5, Try.ntmps5
  go_wp2_with (first
    | (go_at_call 9; refine (mem_none m c _ hc HN.out HM.out).mono ?_; rintro e w1 ⟨rfl, hb1⟩; have bk1 := hide (HK.out.below hb1))
    | (go_at_call 10; refine (lead_is 0 5 _ r c _ hc HL.out).mono ?_; rintro e w2 ⟨rfl, hb2⟩; have bk2 := hide (bk1.out.below hb2))
    | (go_at_call 11; refine (ref_none m c _ m4 m8 hc HM.out).mono ?_; rintro e w3 ⟨rfl, hb3⟩; have bk3 := hide (bk2.out.below hb3))
    | (go_at_call 13; refine (sameInts_same [] _ _ _ (.inl ⟨rfl, rfl⟩) (.inl ⟨rfl, rfl⟩) (by simp)).mono ?_; rintro e w4 ⟨rfl, hb4⟩; have bk4 := hide (bk3.out.below hb4))
    | (go_at_call 14; refine (keepInts_any K base w.heap.size 0 L [] _ _ bk4.out (.inl ⟨rfl, rfl, rfl⟩) rfl (by omega) (by omega) H4.out hbK hbw).mono ?_; rintro e w5 ⟨rfl, hb5, L', bk5, hl5⟩; have BK5 := hide bk5; have HL5 := hide hl5; clear bk5 hl5)
    | (go_at_call 8; refine (staysI_any K base _ _ _ BK5.out (by rw [HL5.out]; omega)).mono ?_; rintro e w6 ⟨rfl, rfl⟩))
  go_ret
  have s1 := hb1.size
  have s2 := hb2.size
  have s3 := hb3.size
  have s4 := hb4.size
  exact ⟨rfl, ((((hb1.mono hbw).trans (hb2.mono (by omega))).trans (hb3.mono (by omega))).trans (hb4.mono (by omega))).trans hb5, L', BK5.out, HL5.out⟩

theorem fresh_of {w : World} {top g s z : Nat} (h : OwnInts w top (.slice (some ⟨g, 0, none⟩) z z) (listed s)) (hz : sizeS s = z) : Fresh w top (.slice (some ⟨g, 0, none⟩) z z) z ((castL (listed s)).map (Value.int .i64)) := by
  have h2 : w.ownsRow top 3 1 (.slice (some ⟨g, 0, none⟩) z z) z ((castL (listed s)).map (Value.int .i64)) := by
    have h3 := h
    unfold OwnInts at h3
    rw [castL_len, show (listed s).length = z from hz] at h3
    exact h3
  exact .inr ⟨g, rfl, (h2.lt g rfl).1, ownsRow_mono h2 (Nat.zero_le _)⟩

set_option maxRecDepth 100000 in
set_option maxHeartbeats 2000000 in
theorem chain_some (K base : Nat) (L : List Value) (m s : Nat) (r : Int) (c : ByteArray) (w : World) (hk : BookI w K base w.heap.size L) (hL : L.length ≤ 90000000) (h4 : L.length % 4 = 0) (hbK : base ≤ K) (hbw : base ≤ w.heap.size) (hc : c.size ≤ maxLen)
    (hn : 4 ≤ (m : Int) ∧ (m : Int) ≤ 7) (hm : members m c = some s) : Calls Try.prog 5 #[.pointer (some ⟨K, 0, none⟩), .int .i64 (m : Int), .string c, .int .i64 r] w (ChainPost K base L w) := by
  have HN := hide hn
  have HM := hide hm
  have m4 : 4 ≤ m := by omega
  have m8 : m < 8 := by omega
  have h18 := members_size hm
  obtain ⟨z, hz⟩ : ∃ z, sizeS s = z := ⟨_, rfl⟩
  have hz4 : 4 ≤ z := by rw [← hz]; exact members_ge m4 m8 hm
  have hz7 : z ≤ 7 := by rw [← hz]; exact sizeS_le
  have HZ := hide hz
  have HK := hide hk
  have H4 := hide h4
  clear hk h4
  clear hz
  by_cases hr : 0 ≤ r ∧ r ≤ 9
  · obtain ⟨ld, hld⟩ : ∃ ld, leaderOf s (c.size / 3 + 1 + r.toNat) = ld := ⟨_, rfl⟩
    have HL : Hid (leadRes (m : Int) r c = ((ld : Int), 0)) := by
      show _ = _
      rw [leadRes_ok hn hm hr, hld]
    have HLD := hide hld
    obtain ⟨hr0, hr9⟩ := hr
    clear hm hn hld
    go_enter Try.func5, Try.ntmps5
    go_wp2_with (first
      | (go_at_call 9; refine (mem_some m s z c _ hc HN.out HM.out HZ.out).mono ?_; rintro e w1 ⟨g, rfl, hv1, hb1⟩; have bk1 := hide (HK.out.below hb1); have HV1 := hide hv1; clear hv1)
      | (go_at_call 10; refine (lead_is ld 0 _ r c _ hc HL.out).mono ?_; rintro e w2 ⟨rfl, hb2⟩; have bk2 := hide (bk1.out.below hb2); have HV2 := hide (show OwnInts w2 w.heap.size _ (listed s) from ownsRow_below HV1.out hb2))
      | (go_at_call 11; refine (ref_some m s c _ m4 m8 hc HM.out).mono ?_; rintro e w3 ⟨u, rfl, hu3, hb3⟩; have bk3 := hide (bk2.out.below hb3); have HV3 := hide (show OwnInts w3 w.heap.size _ (listed s) from ownsRow_below HV2.out hb3); have HU3 := hide hu3; clear hu3)
      | (go_at_call 12; refine (refLead_is ld s _ _ c r _ h18 hr0 hr9 (by rw [HZ.out]; omega) HU3.out HLD.out).mono ?_; rintro e w3 ⟨rfl, rfl⟩)
      | (go_at_call 13; refine (sameInts_same (castL (listed s)) _ _ _ HV3.out.ints HU3.out.ints (by rw [castL_len]; have := sizeS_le (s := s); unfold sizeS at this; omega)).mono ?_; rintro e w4 ⟨rfl, hb4⟩; have bk4 := hide (bk3.out.below hb4); have HV4 := hide (show OwnInts w4 w.heap.size _ (listed s) from ownsRow_below HV3.out hb4))
      | (go_at_call 14; refine (keepInts_any K base w.heap.size z L _ _ _ bk4.out (fresh_of HV4.out HZ.out) (by rw [List.length_map, castL_len]; exact HZ.out) (by omega) (by omega) H4.out hbK hbw).mono ?_; rintro e w5 ⟨rfl, hb5, L', bk5, hl5⟩; have BK5 := hide bk5; have HL5 := hide hl5; clear bk5 hl5)
      | (go_at_call 8; refine (staysI_any K base _ _ _ BK5.out (by rw [HL5.out]; omega)).mono ?_; rintro e w6 ⟨rfl, rfl⟩))
    go_ret
    have s1 := hb1.size
    have s2 := hb2.size
    have s3 := hb3.size
    have s4 := hb4.size
    exact ⟨rfl, ((((hb1.mono hbw).trans (hb2.mono (by omega))).trans (hb3.mono (by omega))).trans (hb4.mono (by omega))).trans hb5, L', BK5.out, HL5.out⟩
  · have HL := hide (leadRes_step hn hm hr)
    clear hm hn
    by_cases hr0 : r < 0
    · clear hr
      go_enter Try.func5, Try.ntmps5
      go_wp2_with (first
        | (go_at_call 9; refine (mem_some m s z c _ hc HN.out HM.out HZ.out).mono ?_; rintro e w1 ⟨g, rfl, hv1, hb1⟩; have bk1 := hide (HK.out.below hb1); have HV1 := hide hv1; clear hv1)
        | (go_at_call 10; refine (lead_is 0 4 _ r c _ hc HL.out).mono ?_; rintro e w2 ⟨rfl, hb2⟩; have bk2 := hide (bk1.out.below hb2); have HV2 := hide (show OwnInts w2 w.heap.size _ (listed s) from ownsRow_below HV1.out hb2))
        | (go_at_call 11; refine (ref_some m s c _ m4 m8 hc HM.out).mono ?_; rintro e w3 ⟨u, rfl, hu3, hb3⟩; have bk3 := hide (bk2.out.below hb3); have HV3 := hide (show OwnInts w3 w.heap.size _ (listed s) from ownsRow_below HV2.out hb3); have HU3 := hide hu3; clear hu3)
        | (go_at_call 13; refine (sameInts_same (castL (listed s)) _ _ _ HV3.out.ints HU3.out.ints (by rw [castL_len]; have := sizeS_le (s := s); unfold sizeS at this; omega)).mono ?_; rintro e w4 ⟨rfl, hb4⟩; have bk4 := hide (bk3.out.below hb4); have HV4 := hide (show OwnInts w4 w.heap.size _ (listed s) from ownsRow_below HV3.out hb4))
        | (go_at_call 14; refine (keepInts_any K base w.heap.size z L _ _ _ bk4.out (fresh_of HV4.out HZ.out) (by rw [List.length_map, castL_len]; exact HZ.out) (by omega) (by omega) H4.out hbK hbw).mono ?_; rintro e w5 ⟨rfl, hb5, L', bk5, hl5⟩; have BK5 := hide bk5; have HL5 := hide hl5; clear bk5 hl5)
        | (go_at_call 8; refine (staysI_any K base _ _ _ BK5.out (by rw [HL5.out]; omega)).mono ?_; rintro e w6 ⟨rfl, rfl⟩))
      go_ret
      have s1 := hb1.size
      have s2 := hb2.size
      have s3 := hb3.size
      have s4 := hb4.size
      exact ⟨rfl, ((((hb1.mono hbw).trans (hb2.mono (by omega))).trans (hb3.mono (by omega))).trans (hb4.mono (by omega))).trans hb5, L', BK5.out, HL5.out⟩
    · have hr9 : 9 < r := by omega
      clear hr
      go_enter Try.func5, Try.ntmps5
      go_wp2_with (first
        | (go_at_call 9; refine (mem_some m s z c _ hc HN.out HM.out HZ.out).mono ?_; rintro e w1 ⟨g, rfl, hv1, hb1⟩; have bk1 := hide (HK.out.below hb1); have HV1 := hide hv1; clear hv1)
        | (go_at_call 10; refine (lead_is 0 4 _ r c _ hc HL.out).mono ?_; rintro e w2 ⟨rfl, hb2⟩; have bk2 := hide (bk1.out.below hb2); have HV2 := hide (show OwnInts w2 w.heap.size _ (listed s) from ownsRow_below HV1.out hb2))
        | (go_at_call 11; refine (ref_some m s c _ m4 m8 hc HM.out).mono ?_; rintro e w3 ⟨u, rfl, hu3, hb3⟩; have bk3 := hide (bk2.out.below hb3); have HV3 := hide (show OwnInts w3 w.heap.size _ (listed s) from ownsRow_below HV2.out hb3); have HU3 := hide hu3; clear hu3)
        | (go_at_call 13; refine (sameInts_same (castL (listed s)) _ _ _ HV3.out.ints HU3.out.ints (by rw [castL_len]; have := sizeS_le (s := s); unfold sizeS at this; omega)).mono ?_; rintro e w4 ⟨rfl, hb4⟩; have bk4 := hide (bk3.out.below hb4); have HV4 := hide (show OwnInts w4 w.heap.size _ (listed s) from ownsRow_below HV3.out hb4))
        | (go_at_call 14; refine (keepInts_any K base w.heap.size z L _ _ _ bk4.out (fresh_of HV4.out HZ.out) (by rw [List.length_map, castL_len]; exact HZ.out) (by omega) (by omega) H4.out hbK hbw).mono ?_; rintro e w5 ⟨rfl, hb5, L', bk5, hl5⟩; have BK5 := hide bk5; have HL5 := hide hl5; clear bk5 hl5)
        | (go_at_call 8; refine (staysI_any K base _ _ _ BK5.out (by rw [HL5.out]; omega)).mono ?_; rintro e w6 ⟨rfl, rfl⟩))
      go_ret
      have s1 := hb1.size
      have s2 := hb2.size
      have s3 := hb3.size
      have s4 := hb4.size
      exact ⟨rfl, ((((hb1.mono hbw).trans (hb2.mono (by omega))).trans (hb3.mono (by omega))).trans (hb4.mono (by omega))).trans hb5, L', BK5.out, HL5.out⟩

theorem chain_any (K base : Nat) (L : List Value) (n r : Int) (c : ByteArray) (w : World) (hk : BookI w K base w.heap.size L) (hL : L.length ≤ 90000000) (h4 : L.length % 4 = 0) (hbK : base ≤ K) (hbw : base ≤ w.heap.size) (hc : c.size ≤ maxLen) :
    Calls Try.prog 5 #[.pointer (some ⟨K, 0, none⟩), .int .i64 n, .string c, .int .i64 r] w (ChainPost K base L w) := by
  by_cases hn : 4 ≤ n ∧ n ≤ 7
  · obtain ⟨m, rfl⟩ := Int.eq_ofNat_of_zero_le (show 0 ≤ n by omega)
    cases h : members m c with
    | none => exact chain_none K base L m r c w hk hL h4 hbK hbw hc hn h
    | some s => exact chain_some K base L m s r c w hk hL h4 hbK hbw hc hn h
  · exact chain_cfg K base L n r c w hk hL h4 hbK hbw hc hn
end Go.Proofs.Ytlkhmldceekdaaa

/- The law Chains, walked. -/
namespace Go.Proofs.Ytlkhmldceekdaaa
open Go.RowKit Go.Shelf
attribute [local go_sem ↓] Go.wp_at_zero Go.wp_at_succ
set_option linter.unusedVariables false

theorem bookI_new (w : World) : BookI (w.alloc (.cells #[.slice none 0 0, .slice none 0 0, .slice none 0 0] 28)) w.heap.size w.heap.size (w.alloc (.cells #[.slice none 0 0, .slice none 0 0, .slice none 0 0] 28)).heap.size [] :=
  ⟨⟨.slice none 0 0, World.alloc_heap_new w _, World.ownsRow_nil _ _ _ _⟩, fun i hi => by simp at hi, Nat.le_refl _⟩
theorem BookI.drew {w : World} {K base top : Nat} {L : List Value} (h : BookI w K base top L) : BookI w.drew K base top L := h.below (Below.refl _ w).drew

set_option maxRecDepth 100000 in
set_option maxHeartbeats 2000000 in
theorem chains_walk (ao : Option Addr) (len cap b off : Nat) (N R : Nat → Int) (T : Nat → ByteArray) (w : World) (hlen : len ≤ 1048576) (hcap : len ≤ cap) (hao : 0 < len → ao = some ⟨b, off, none⟩) (hb : 0 < len → b < w.heap.size)
    (hc : ∀ i, i < len → w.cell? ⟨b, off + i * 3, none⟩ = some (.int .i64 (N i)) ∧ w.cell? ⟨b, off + i * 3 + 1, none⟩ = some (.string (T i)) ∧ w.cell? ⟨b, off + i * 3 + 2, none⟩ = some (.int .i64 (R i)) ∧ (T i).size ≤ maxLen) :
    Calls Try.prog 3 #[.slice ao len cap] w fun e w' => e = .returned (.bool true) ∧ Below w.heap.size w w' := by
  have HC := hide hc
  have HAO := hide hao
  have HB := hide hb
  clear hc hao hb
  go_enter Try.func3, Try.ntmps3
  go_wp2
  go_loopw [4] (fun i wr => ∃ (k : Nat) (L : List Value), k ≤ len ∧ i = .int .i64 (k : Int) ∧ BookI wr w.heap.size w.heap.size wr.heap.size L ∧ Hid (L.length = 4 * k) ∧ Below w.heap.size w wr) (fun i _ => len - (intOf i).toNat)
  case atStart => exact ⟨0, [], by omega, rfl, bookI_new w, rfl, (Below.refl _ w).alloc (Nat.le_refl _) _⟩
  case round =>
    obtain ⟨k, L, hk, rfl, hbk, hL, hB⟩ := hrel
    have hsz := hB.size
    have HBK := hide hbk
    clear hbk
    by_cases hlt : k < len
    · have e := HAO.out (by omega)
      subst e
      have hbw := HB.out (by omega)
      obtain ⟨c0, c1, c2, ht⟩ := HC.out k hlt
      rw [← hB.cell (p := ⟨b, off + k * 3, none⟩) hbw] at c0
      rw [← hB.cell (p := ⟨b, off + k * 3 + 1, none⟩) hbw] at c1
      rw [← hB.cell (p := ⟨b, off + k * 3 + 2, none⟩) hbw] at c2
      obtain ⟨n, hn⟩ : ∃ n, N k = n := ⟨_, rfl⟩
      obtain ⟨t, htt⟩ : ∃ t, T k = t := ⟨_, rfl⟩
      obtain ⟨r, hr⟩ : ∃ r, R k = r := ⟨_, rfl⟩
      rw [hn] at c0
      rw [htt] at c1 ht
      rw [hr] at c2
      clear hn htt hr
      have i0 : (0 : Int) ≤ (k : Int) := by omega
      have i1 : (k : Int) < (len : Int) := by omega
      have HT := hide ht
      clear ht
      go_wp2
      go_region_held3 (fun w' => w'.cell? ⟨b, off + k * 3, none⟩ = some (.int .i64 n) ∧ w'.cell? ⟨b, off + k * 3 + 1, none⟩ = some (.string t) ∧ w'.cell? ⟨b, off + k * 3 + 2, none⟩ = some (.int .i64 r)) (go_keep)
        ((go_at_call 5; refine (chain_any w.heap.size w.heap.size L n r t _ HBK.out.drew (by have := hL.out; omega) (by have := hL.out; omega) (Nat.le_refl _) (by simp; omega) HT.out).mono ?_; rintro e w' ⟨rfl, hb', L', bk', hl'⟩; have d0 := (hb'.cell (p := ⟨b, off + k * 3, none⟩) hbw).trans c0; have d1 := (hb'.cell (p := ⟨b, off + k * 3 + 1, none⟩) hbw).trans c1; have d2 := (hb'.cell (p := ⟨b, off + k * 3 + 2, none⟩) hbw).trans c2; have BK' := hide bk'; have HL' := hide hl'; clear bk' hl'))
      go_wp2
      go_roundw
      case rel => exact ⟨k + 1, L', by omega, by go_num, BK'.out, by rw [HL'.out, hL.out]; show _ = _; omega, hB.trans ((Below.refl _ _).drew.trans hb')⟩
      case measure => simp [intOf]; omega
    · go_wp2_with (go_at_call 5; refine (chain_any w.heap.size w.heap.size L 4 2 _ _ HBK.out (by have := hL.out; omega) (by have := hL.out; omega) (Nat.le_refl _) hsz (by decide)).mono ?_; rintro e w' ⟨rfl, hb', _⟩)
      go_ret
      exact ⟨rfl, hB.trans hb'⟩
end Go.Proofs.Ytlkhmldceekdaaa
