import Derived.Test.YtpecfjejfkcolaaPart13
import Derived.Deep.QuietTactic
import Derived.BigQuiet
import Derived.WalkSmall
/- chains.Members in one word; chains.Leader, moot.Leader. -/
namespace Go.Proofs.Ytpecfjejfkcolaa
open Go.RowKit Go.Shelf
set_option linter.unusedVariables false

/-- chains.Members at a number of nodes that may be. -/
theorem chMembers_is (n : Nat) (c : ByteArray) (w : World) (h4 : 4 ≤ n) (h8 : n < 8) (hc : c.size ≤ maxLen) :
    Calls Try.prog 22 #[.int .i64 (n : Int), .string c] w fun e w' => e = .returned (chRes (members n c)) ∧ Below w.heap.size w w' := by
  unfold members
  by_cases h : c.size % 3 = 0 ∧ c.size ≤ 18
  · rw [if_pos h]; exact chMembers_run n c w h4 h8 h.1 h.2
  · rw [if_neg h]; exact chMembers_bad n c w h4 h8 hc h
theorem chMembers_some (n s : Nat) (c : ByteArray) (w : World) (h4 : 4 ≤ n) (h8 : n < 8) (hc : c.size ≤ maxLen) (h : members n c = some s) :
    Calls Try.prog 22 #[.int .i64 (n : Int), .string c] w fun e w' => e = .returned (.tuple #[.int .i64 (s : Int), .int .i64 0]) ∧ Below w.heap.size w w' := by
  have := chMembers_is n c w h4 h8 hc
  rw [h] at this
  exact this
theorem chMembers_none (n : Nat) (c : ByteArray) (w : World) (h4 : 4 ≤ n) (h8 : n < 8) (hc : c.size ≤ maxLen) (h : members n c = none) :
    Calls Try.prog 22 #[.int .i64 (n : Int), .string c] w fun e w' => e = .returned (.tuple #[.int .i64 0, .int .i64 5]) ∧ Below w.heap.size w w' := by
  have := chMembers_is n c w h4 h8 hc
  rw [h] at this
  exact this

/-- the members are four at least -/
theorem stepS_ge {bl : List Blk} {s i : Nat} (hs : s < 128) (hi : i < 7) (h : 4 ≤ sizeS s) : 4 ≤ sizeS (stepS bl s i) := by
  unfold stepS
  split
  · rw [sizeS_with hs hi]; omega
  · split
    · rename_i h2
      have := sizeS_without hs hi
      rw [h2.2.1] at this
      simp at this
      omega
    · exact h
theorem countTo_ge {bl : List Blk} {s : Nat} (hs : s < 128) (h : 4 ≤ sizeS s) : ∀ k, k ≤ 7 → 4 ≤ sizeS (countTo bl s k)
  | 0, _ => h
  | k + 1, hk => stepS_ge (countTo_lt hs k (by omega)) (by omega) (countTo_ge hs h k (by omega))
theorem memTo_ge {c : ByteArray} {s0 : Nat} (h0 : s0 < 128) (h : 4 ≤ sizeS s0) : ∀ k s, memTo c s0 k = some s → 4 ≤ sizeS s
  | 0, s, e => by simp [memTo] at e; rw [← e]; exact h
  | k + 1, s, e => by
    rw [memTo] at e
    cases hm : memTo c s0 k with
    | none => rw [hm] at e; cases e
    | some s' =>
      rw [hm] at e
      have i1 := memTo_lt h0 k s' hm
      have i2 := memTo_ge h0 h k s' hm
      simp only at e
      split at e
      · simp only [Option.some.injEq] at e
        rw [← e]
        split
        · exact countTo_ge i1 i2 7 (by omega)
        · exact i2
      · cases e
theorem members_ge {n : Nat} {c : ByteArray} {s : Nat} (h4 : 4 ≤ n) (h8 : n < 8) (h : members n c = some s) : 4 ≤ sizeS s := by
  unfold members at h
  split at h
  · refine memTo_ge (firstS_lt h8) ?_ _ _ h
    unfold sizeS; rw [listed_first h8, List.length_range]; exact h4
  · cases h
theorem members_size {n : Nat} {c : ByteArray} {s : Nat} (h : members n c = some s) : c.size ≤ 18 := by
  unfold members at h
  split at h
  · rename_i hc; exact hc.2
  · cases h

/-- what Leader answers -/
def leadRes (n r : Int) (c : ByteArray) : Int × Int :=
  if 4 ≤ n ∧ n ≤ 7 then
    match members n.toNat c with
    | none => (0, 5)
    | some s => if 0 ≤ r ∧ r ≤ 9 then (((leaderOf s (c.size / 3 + 1 + r.toNat) : Nat) : Int), 0) else (0, 4)
  else (0, 1)

theorem leadRes_cfg {n r : Int} {c : ByteArray} (h : ¬ (4 ≤ n ∧ n ≤ 7)) : leadRes n r c = (0, 1) := if_neg h
theorem leadRes_chain {m : Nat} {r : Int} {c : ByteArray} (h : 4 ≤ (m : Int) ∧ (m : Int) ≤ 7) (hm : members m c = none) : leadRes m r c = (0, 5) := by
  unfold leadRes
  rw [if_pos h, Int.toNat_natCast, hm]
theorem leadRes_step {m s : Nat} {r : Int} {c : ByteArray} (h : 4 ≤ (m : Int) ∧ (m : Int) ≤ 7) (hm : members m c = some s) (hr : ¬ (0 ≤ r ∧ r ≤ 9)) : leadRes m r c = (0, 4) := by
  unfold leadRes
  rw [if_pos h, Int.toNat_natCast, hm]
  exact if_neg hr
theorem leadRes_ok {m s : Nat} {r : Int} {c : ByteArray} (h : 4 ≤ (m : Int) ∧ (m : Int) ≤ 7) (hm : members m c = some s) (hr : 0 ≤ r ∧ r ≤ 9) : leadRes m r c = (((leaderOf s (c.size / 3 + 1 + r.toNat) : Nat) : Int), 0) := by
  unfold leadRes
  rw [if_pos h, Int.toNat_natCast, hm]
  exact if_pos hr
theorem ret_two {a b : Int} {p : Int × Int} (h : p = (a, b)) : Ending.returned (.tuple #[.int .i64 a, .int .i64 b]) = .returned (.tuple #[.int .i64 p.1, .int .i64 p.2]) := by rw [h]
theorem nodeAt_is (a : Nat) (p : Int) (s : Nat) (hs : s < 128) (hp0 : 0 ≤ p) (hp : p < sizeS s) (w : World) (h : (listed s).getD p.toNat 0 = a) :
    Calls Try.prog 61 #[.int .i64 (s : Int), .int .i64 p] w fun e w' => e = .returned (.int .i64 (a : Int)) ∧ Below w.heap.size w w' := by
  obtain ⟨q, rfl⟩ := Int.eq_ofNat_of_zero_le hp0
  rw [Int.toNat_natCast] at h
  rw [← h]; exact nodeAt_any s q hs (by omega) w

set_option maxHeartbeats 400000 in
theorem leaderOf_is (a s z : Nat) (h r : Int) (hs128 : s < 128) (hs4 : 4 ≤ z) (hs7 : z ≤ 7) (hz : sizeS s = z) (h0 : 0 ≤ h) (h9 : h ≤ 9) (hr0 : 0 ≤ r) (hr9 : r ≤ 9) (w : World)
    (hl : (listed s).getD ((h + r) % z).toNat 0 = a) :
    Calls Try.prog 45 #[.int .i64 (s : Int), .int .i64 h, .int .i64 r] w fun e w' => e = .returned (.int .i64 (a : Int)) ∧ Below w.heap.size w w' := by
  have hp0 : (0 : Int) ≤ (h + r) % z := Int.emod_nonneg _ (by omega)
  have hp1 : (h + r) % z < z := Int.emod_lt_of_pos _ (by omega)
  have HZ := hide hz
  have HL := hide hl
  clear hz hl
  go_enter Try.func45, Try.ntmps45
  go_wp2_with (go_at_call 23; refine (size_is z s hs128 _ HZ.out).mono ?_; rintro e w' ⟨rfl, rfl⟩)
  refine (nodeAt_is _ _ s hs128 hp0 (by rw [HZ.out]; exact hp1) _ HL.out).mono ?_
  rintro e w2 ⟨rfl, hb2⟩
  go_wp2
  go_ret
  exact ⟨rfl, hb2⟩

set_option maxRecDepth 100000 in
set_option maxHeartbeats 1000000 in
theorem chLeader_any (n r : Int) (c : ByteArray) (w : World) (hc : c.size ≤ maxLen) :
    Calls Try.prog 25 #[.int .i64 n, .string c, .int .i64 r] w fun e w' => e = .returned (.tuple #[.int .i64 (leadRes n r c).1, .int .i64 (leadRes n r c).2]) ∧ Below w.heap.size w w' := by
  by_cases hn : 4 ≤ n ∧ n ≤ 7
  · obtain ⟨m, rfl⟩ := Int.eq_ofNat_of_zero_le (show 0 ≤ n by omega)
    have h4 : 4 ≤ m := by omega
    have h8 : m < 8 := by omega
    cases hm : members m c with
    | none =>
      have HR := hide (leadRes_chain (r := r) hn hm)
      have HM := hide hm
      clear hm
      go_enter Try.func25, Try.ntmps25
      go_wp2_with (go_at_call 22; refine (chMembers_none m c _ h4 h8 hc HM.out).mono ?_; rintro e w' ⟨rfl, hb⟩)
      go_ret2
      exact ⟨ret_two HR.out, hb⟩
    | some s =>
      have hs128 := members_lt h8 hm
      have hs4 := members_ge h4 h8 hm
      have h18 := members_size hm
      have hs7 : sizeS s ≤ 7 := sizeS_le
      by_cases hr : 0 ≤ r ∧ r ≤ 9
      · have HR := hide (leadRes_ok hn hm hr)
        have HM := hide hm
        obtain ⟨z, hz⟩ : ∃ z, sizeS s = z := ⟨_, rfl⟩
        obtain ⟨bl, hbl⟩ : ∃ bl, c.size / 3 = bl := ⟨_, rfl⟩
        have hbl6 : bl ≤ 6 := by omega
        have HZ := hide hz
        have HBL := hide hbl
        rw [hz] at hs4 hs7
        have hz4 := hide hs4
        have hz7 := hide hs7
        have hl : Hid ((listed s).getD (((bl : Int) + 1 + r) % z).toNat 0 = leaderOf s (c.size / 3 + 1 + r.toNat)) := by
          show _ = _
          unfold leaderOf
          rw [hz, hbl]
          congr 1
          obtain ⟨q, rfl⟩ := Int.eq_ofNat_of_zero_le hr.1
          rw [Int.toNat_natCast]
          have e : ((bl : Int) + 1 + (q : Int)) % (z : Int) = (((bl + 1 + q) % z : Nat) : Int) := by simp
          rw [e, Int.toNat_natCast]
        obtain ⟨hr0, hr9⟩ := hr
        clear hm hz hbl
        go_enter Try.func25, Try.ntmps25
        go_wp2_with (first
          | (go_at_call 22; refine (chMembers_some m s c _ h4 h8 hc HM.out).mono ?_; rintro e w' ⟨rfl, hb⟩)
          | (go_at_call 37; refine (blocks_is bl c _ hc HBL.out).mono ?_; rintro e w' ⟨rfl, rfl⟩))
        refine (leaderOf_is _ s z ((bl : Int) + 1) r hs128 hz4.out hz7.out HZ.out (by omega) (by omega) hr0 hr9 _ hl.out).mono ?_
        rintro e w2 ⟨rfl, hb2⟩
        go_wp2
        go_ret2
        exact ⟨ret_two HR.out, hb.trans (hb2.mono hb.size)⟩
      · have HR := hide (leadRes_step hn hm hr)
        have HM := hide hm
        clear hm
        by_cases hr0 : r < 0
        · clear hr
          go_enter Try.func25, Try.ntmps25
          go_wp2_with (go_at_call 22; refine (chMembers_some m s c _ h4 h8 hc HM.out).mono ?_; rintro e w' ⟨rfl, hb⟩)
          go_ret2
          exact ⟨ret_two HR.out, hb⟩
        · have hr9 : 9 < r := by omega
          clear hr
          go_enter Try.func25, Try.ntmps25
          go_wp2_with (go_at_call 22; refine (chMembers_some m s c _ h4 h8 hc HM.out).mono ?_; rintro e w' ⟨rfl, hb⟩)
          go_ret2
          exact ⟨ret_two HR.out, hb⟩
  · have HR := hide (leadRes_cfg (r := r) (c := c) hn)
    have hn' : n < 4 ∨ 7 < n := by omega
    have HN := hide hn'
    clear hn hn'
    go_enter Try.func25, Try.ntmps25
    go_wp2_with (go_at_call 22; refine (chMembers_no n c _ HN.out).mono ?_; rintro e w' ⟨rfl, hb⟩)
    go_ret2
    exact ⟨ret_two HR.out, hb⟩

set_option maxHeartbeats 400000 in
theorem leader_any (n r : Int) (c : ByteArray) (w : World) (hc : c.size ≤ maxLen) :
    Calls Try.prog 10 #[.int .i64 n, .string c, .int .i64 r] w fun e w' => e = .returned (.tuple #[.int .i64 (leadRes n r c).1, .int .i64 (leadRes n r c).2]) ∧ Below w.heap.size w w' := by
  go_enter Try.func10, Try.ntmps10
  go_wp2_with (go_at_call 25; refine (chLeader_any n r c _ hc).mono ?_; rintro e w' ⟨rfl, hb⟩)
  go_ret2
  exact ⟨rfl, hb⟩
end Go.Proofs.Ytpecfjejfkcolaa

/- moot.Members. -/
namespace Go.Proofs.Ytpecfjejfkcolaa
open Go.RowKit Go.Shelf
attribute [local go_sem] Oper.semAt_some
set_option linter.unusedVariables false

/-- what Members answers: the members, if there are any; the error -/
def memO (n : Int) (c : ByteArray) : Option Nat := if 4 ≤ n ∧ n ≤ 7 then members n.toNat c else none
def memErr (n : Int) (c : ByteArray) : Int := if 4 ≤ n ∧ n ≤ 7 then (if (members n.toNat c).isSome then 0 else 5) else 1

def MemPost (n : Int) (c : ByteArray) (w : World) (e : Ending) (w' : World) : Prop :=
  ∃ v, e = .returned (.tuple #[v, .int .i64 (memErr n c)]) ∧ Below w.heap.size w w' ∧
    (∀ s, memO n c = some s → (∃ g, v = .slice (some ⟨g, 0, none⟩) (sizeS s) (sizeS s)) ∧ OwnInts w' w.heap.size v (listed s)) ∧ (memO n c = none → v = .slice none 0 0)

theorem tup_err {v : Value} {a b : Int} (h : a = b) : Ending.returned (.tuple #[v, .int .i64 a]) = .returned (.tuple #[v, .int .i64 b]) := by rw [h]
theorem members_cfg (n : Int) (c : ByteArray) (w : World) (hn : ¬ (4 ≤ n ∧ n ≤ 7)) : Calls Try.prog 9 #[.int .i64 n, .string c] w (MemPost n c w) := by
  have hn' : n < 4 ∨ 7 < n := by omega
  have HN := hide hn'
  have HE : Hid (memErr n c = 1) := if_neg hn
  have HO : Hid (memO n c = none) := if_neg hn
  clear hn hn'
  go_enter Try.func9, Try.ntmps9
  go_wp2_with (go_at_call 22; refine (chMembers_no n c _ HN.out).mono ?_; rintro e w' ⟨rfl, hb⟩)
  go_ret2
  exact ⟨_, tup_err HE.out.symm, hb, fun s h => (by rw [HO.out] at h; cases h), fun _ => rfl⟩
theorem members_chain (m : Nat) (c : ByteArray) (w : World) (h4 : 4 ≤ m) (h8 : m < 8) (hc : c.size ≤ maxLen) (h : members m c = none) : Calls Try.prog 9 #[.int .i64 (m : Int), .string c] w (MemPost m c w) := by
  have hn : 4 ≤ (m : Int) ∧ (m : Int) ≤ 7 := by omega
  have HM := hide h
  have HE : Hid (memErr m c = 5) := by
    show _ = _
    unfold memErr; rw [if_pos hn, Int.toNat_natCast, h]; rfl
  have HO : Hid (memO m c = none) := by
    show _ = _
    unfold memO; rw [if_pos hn, Int.toNat_natCast, h]
  clear hn h
  go_enter Try.func9, Try.ntmps9
  go_wp2_with (go_at_call 22; refine (chMembers_none m c _ h4 h8 hc HM.out).mono ?_; rintro e w' ⟨rfl, hb⟩)
  go_ret2
  exact ⟨_, tup_err HE.out.symm, hb, fun s h => (by rw [HO.out] at h; cases h), fun _ => rfl⟩

/-- between two rounds: what has been gathered -/
def MidM (n₀ g Bx z s : Nat) (pre : List (Fin 7)) (W : World) : Prop :=
  (∃ v, Boxed W Bx 45 v ∧ W.ownsRow n₀ 3 1 v pre.length ((castL (pre.map Fin.val)).map (Value.int .i64)) ∧ v = .slice (some ⟨g, 0, none⟩) pre.length z) ∧ Boxed W (Bx + 1) 66 (.int .i64 (s : Int))
theorem midM_own (n₀ g Bx z s : Nat) : Own (MidM n₀ g Bx z s) := by
  rintro pre X Y row ⟨h1, h2⟩ hg hr
  exact ⟨holdsRow_own n₀ Bx 45 3 1 (fun pre : List (Fin 7) => pre.length) (fun pre => (castL (pre.map Fin.val)).map (Value.int .i64)) (fun pre v => v = .slice (some ⟨g, 0, none⟩) pre.length z) pre X Y row h1 hg hr, boxed_own' _ _ (fun _ : Unit => _) () X Y row h2 hg hr⟩

set_option maxRecDepth 100000 in
set_option maxHeartbeats 2000000 in
theorem members_ok (m s : Nat) (c : ByteArray) (w : World) (h4 : 4 ≤ m) (h8 : m < 8) (hc : c.size ≤ maxLen) (h : members m c = some s) : Calls Try.prog 9 #[.int .i64 (m : Int), .string c] w (MemPost m c w) := by
  have hn : 4 ≤ (m : Int) ∧ (m : Int) ≤ 7 := by omega
  have HM := hide h
  have HE : Hid (memErr m c = 0) := by
    show _ = _
    unfold memErr; rw [if_pos hn, Int.toNat_natCast, h]; rfl
  have HO : Hid (memO m c = some s) := by
    show _ = _
    unfold memO; rw [if_pos hn, Int.toNat_natCast, h]
  have hs128 := members_lt h8 h
  have hs7 : sizeS s ≤ 7 := sizeS_le
  obtain ⟨z, hz⟩ : ∃ z, sizeS s = z := ⟨_, rfl⟩
  have HZ := hide hz
  rw [hz] at hs7
  clear hn h hz
  obtain ⟨i0, hi, hz0, hz1, hz2⟩ := info_parts Try.info3
  refine (callsIn_wide (n := 6)).1 ?_
  refine callsIn_of_wp_marks Try.func9 rfl trivial ?_ rfl
  simp only [Try.ntmps9, List.size_toArray, List.length_cons, List.length_nil, Nat.reduceAdd, Nat.reduceSub, Array.replicate_succ, Array.replicate_zero, List.push_toArray, List.append_toArray, List.nil_append, List.cons_append]
  gi_wp2_with (first
    | (refine ⟨trivial, ?_⟩; gi_at_call 22; refine (callsIn_wide.2 (chMembers_some m s c _ h4 h8 hc HM.out)).mono ?_; rintro e w1 ⟨rfl, hb1⟩)
    | (refine ⟨trivial, ?_⟩; gi_at_call 23; refine (callsIn_wide.2 (size_is z s hs128 _ HZ.out)).mono ?_; rintro e w' ⟨rfl, rfl⟩)
    | (gi_at_make; refine wpListIn_make_own _ rfl _ _ 45 rfl w.heap.size 3 i0 (.int .i64 0) 1 Try.underlying45 hi hz0 hz1 .i64 .i64 _ z rfl rfl rfl (by rw [hz2]; omega) (by unfold maxLen; omega) (by exact hb1.size) ?_; intro w2 hown0 hgrow0)
    | (refine ⟨trivial, ?_⟩; gi_at_call 24; refine (callsIn_wide.2 (nodes_any _ _)).mono ?_; rintro e w' ⟨rfl, rfl⟩))
  have hsz1 := hb1.size
  have hsz2 := hgrow0.size
  have hb2 : Below w.heap.size w w2 := hb1.grown hgrow0 hsz1 (fun k e => by cases e)
  have b0 := Boxed.new w2 45 (.slice (some ⟨w'.heap.size, 0, none⟩) 0 z)
  have b1 := Boxed.new (w2.alloc (.cells #[.slice (some ⟨w'.heap.size, 0, none⟩) 0 z] 45)) 66 (.int .i64 (s : Int))
  simp only [World.size_alloc] at b1
  have hB0 : Below w.heap.size w ((w2.alloc (.cells #[.slice (some ⟨w'.heap.size, 0, none⟩) 0 z] 45)).alloc (.cells #[.int .i64 (s : Int)] 66)) := (hb2.alloc (by omega) _).alloc (by simp; omega) _
  refine wpIn_rangeFunc_ownG rfl (by omega) (gf := 44) (lb := #[.pointer (some ⟨w2.heap.size + 1, 0, none⟩)]) rfl trivial (enters_of Try.func44 (by kernel_rfl) rfl)
    (nodes_stops 5 (by omega) (w2.heap.size + 1) s hs128 _ b1) keepB_t (keepB_b (by simp)) (Below.refl _ _) (fun _ => rfl)
    (fun pre W => MidM w.heap.size w'.heap.size w2.heap.size z s pre W ∧ Below w.heap.size w W)
    (fun _ _ _ => False)
    (OwnFrom.and (Own.from (midM_own _ _ _ _ _) _) (ownFrom_below (Nat.le_refl _) (by simp; omega)))
    (fun _ _ _ _ _ hs _ _ => hs)
    ⟨⟨⟨_, b0.alloc _, World.ownsRow.alloc (World.ownsRow.alloc hown0 _) _, rfl⟩, b1⟩, hB0⟩
    (fun x => { tmps := #[.int .i64 (m : Int), .string c, undef, undef, .slice none 0 0, .int .i64 0, .int .i64 (s : Int), .int .i64 0, .pointer (some ⟨w2.heap.size, 0, none⟩), .int .i64 (x.1 : Int), .tuple #[.int .i64 (s : Int), .int .i64 0], .int .i64 (m : Int), .string c, .tuple #[.int .i64 (s : Int), .int .i64 0], .int .i64 (s : Int), .int .i64 0, .int .i64 0, .bool false, undef, .int .i64 (s : Int), .int .i64 (z : Int), .slice (some ⟨w'.heap.size, 0, none⟩) 0 z, .int .i64 (s : Int), .func (.func 44) #[] #[.pointer (some ⟨w2.heap.size + 1, 0, none⟩)], .int .i64 (x.1 : Int), undef, undef, undef, undef, undef], defers := [] }) ?assign ?body ?done ?stop
  case assign =>
    intro l x W K hK
    gi_wp2
    exact hK
  case body =>
    rintro l pre x W ⟨⟨⟨v, hv, hrow, rfl⟩, hbs⟩, hB⟩ hlt
    rw [HZ.out] at hlt
    have hc := hv.cell
    have hB1 := hB.size
    have hsn : castL ((pre ++ [x]).map Fin.val) = castL (pre.map Fin.val) ++ [(x.1 : Int)] := by rw [List.map_append, List.map_cons, List.map_nil, castL_snoc]
    have HSN := hide hsn
    clear hsn
    gi_wp2_with (gi_at_builtin; refine wpListIn_append_fits _ rfl _ _ 45 rfl w.heap.size 3 i0 1 Try.underlying45 hi hz1 w'.heap.size pre.length z _ rfl (World.ownsRow.alloc hrow _) ⟨W.heap.size, 0, none⟩ 1 1 [.int .i64 (x.1 : Int)] rfl rfl (cell_one_new _ _ _) (by simp [Value.oneCell']) (by omega) ?_; intro w1 hown' hgrow; obtain ⟨hv1, hv2, hr2, hk2, hb2⟩ := hv.appended (by decide) hrow hB1 (by omega) hown' hgrow; have hc1 := hv1.cell; have hf1 := hv1.frozen; have j4 := (hbs.alloc _).kept hgrow (hbs.not_row (by decide) hrow))
    have n4 := boxed_keep_set (b := w2.heap.size) j4 (by omega) (.slice (some ⟨w'.heap.size, 0, none⟩) (pre.length + 1) z)
    exact ⟨hk2.from _, Eq.trans n4 hbs.symm, ⟨⟨_, hv2, by rw [HSN.out]; simpa using hr2, by simp⟩, n4⟩, hB.trans hb2⟩
  case done =>
    rintro D ys W hD hys ⟨⟨⟨v, hv, hrow, rfl⟩, hbs⟩, hB⟩ hK
    have hlen : ys.length = z := by
      have h1 := congrArg List.length hys
      rw [List.length_map] at h1
      exact h1.trans HZ.out
    rw [hlen] at hv hrow
    rw [hys] at hrow
    have hc := hv.cell
    gi_wp2
    refine ⟨by simp, .inl ⟨_, _, rfl, run_takeDeferred hK, ?_⟩⟩
    refine ⟨.tuple #[.slice (some ⟨w'.heap.size, 0, none⟩) z z, .int .i64 0], ?_, _, tup_err HE.out.symm, hB.trans (belowK_b (w := w) (Nat.le_refl _) W D _ _ (by simp at hD; omega) hK rfl rfl), ?_, ?_⟩
    · simp [results, Try.f9, go_sem]
    · intro s' hs'
      rw [HO.out] at hs'
      cases hs'
      refine ⟨⟨w'.heap.size, by rw [HZ.out]⟩, ?_⟩
      have h2 := ownsRow_putObj hrow (.deferred none) hK rfl
      unfold OwnInts
      rw [castL_len, show (listed s).length = z from HZ.out]
      exact h2
    · intro h; rw [HO.out] at h; cases h
  case stop =>
    rintro D c pre W _ _ h _
    exact h.elim

theorem members_any (n : Int) (c : ByteArray) (w : World) (hc : c.size ≤ maxLen) : Calls Try.prog 9 #[.int .i64 n, .string c] w (MemPost n c w) := by
  by_cases hn : 4 ≤ n ∧ n ≤ 7
  · obtain ⟨m, rfl⟩ := Int.eq_ofNat_of_zero_le (show 0 ≤ n by omega)
    cases h : members m c with
    | none => exact members_chain m c w (by omega) (by omega) hc h
    | some s => exact members_ok m s c w (by omega) (by omega) hc h
  · exact members_cfg n c w hn
end Go.Proofs.Ytpecfjejfkcolaa

/- The law's book: what lists lie in it; sameInts, stays. -/
namespace Go.Proofs.Ytpecfjejfkcolaa
open Go.RowKit Go.Shelf
set_option linter.unusedVariables false

/-- a list of n numbers x, its array below block 'top' -/
def Marked (w : World) (top : Nat) (v : Value) (x : Int) : Prop :=
  ∃ n, w.ownsRow 0 3 1 v n (List.replicate n (.int .i64 x)) ∧ n ≤ 1000 ∧ ∀ g, v.ownBlock = some g → g < top
theorem Marked.slice {w : World} {top : Nat} {v : Value} {x : Int} (h : Marked w top v x) : ∃ ao n cap, v = .slice ao n cap ∧ n ≤ 1000 ∧ (0 < n → ∃ g, ao = some ⟨g, 0, none⟩ ∧ ∀ j, j < n → w.cell? ⟨g, j, none⟩ = some (.int .i64 x)) := by
  obtain ⟨n, hown, hn, _⟩ := h
  have h2 := hown
  rcases hown.2 with ⟨rfl, h0⟩ | ⟨g, cap, cur, rfl, _⟩
  · exact ⟨none, 0, 0, rfl, by omega, fun h => by omega⟩
  · refine ⟨_, n, cap, rfl, hn, fun _ => ⟨g, rfl, fun j hj => ?_⟩⟩
    rw [h2.cellAt j (by omega)]
    simp [hj]
theorem Marked.mono {w : World} {top top' : Nat} {v : Value} {x : Int} (h : Marked w top v x) (ht : top ≤ top') : Marked w top' v x := by
  obtain ⟨n, h1, h2, h3⟩ := h
  exact ⟨n, h1, h2, fun g hg => Nat.lt_of_lt_of_le (h3 g hg) ht⟩
theorem Marked.kept {w w' : World} {top : Nat} {v : Value} {x : Int} {row : Option Nat} (h : Marked w top v x) (hg : w.grownBy w' row) (hne : v.ownBlock = none ∨ v.ownBlock ≠ row) : Marked w' top v x := by
  obtain ⟨n, h1, h2, h3⟩ := h
  exact ⟨n, h1.kept hg hne, h2, h3⟩

/-- the mark of a place -/
def markOf (i : Nat) : Int := -1 - ((i / 4 * 4 : Nat) : Int)

/-- THE BOOK (its lists of numbers; of the others there are none): block K; its own row from 'base' on; the lists' arrays below 'top'. -/
structure BookI (w : World) (K base top : Nat) (L : List Value) : Prop where
  book : ∃ kv, w.heap[K]? = some (.cells #[kv, .slice none 0 0, .slice none 0 0] 28 (0, 0)) ∧ w.ownsRow base 45 1 kv L.length L
  lists : ∀ i (h : i < L.length), Marked w top L[i] (markOf i)
  top_le : top ≤ w.heap.size

theorem grownBy_below {w w' : World} (h : Below w.heap.size w w') : w.grownBy w' none := ⟨h.os, h.tape, h.output, h.size, fun k hk _ => h.block k hk⟩
theorem BookI.below {w w' : World} {K base top : Nat} {L : List Value} (h : BookI w K base top L) (hb : Below w.heap.size w w') : BookI w' K base top L := by
  obtain ⟨⟨kv, h1, h2⟩, h3, h4⟩ := h
  refine ⟨⟨kv, (hb.block K (lt_of_block h1)).trans h1, ownsRow_below h2 hb⟩, fun i hi => (h3 i hi).kept (grownBy_below hb) ?_, Nat.le_trans h4 hb.size⟩
  cases hv : (L[i]).ownBlock with
  | none => exact .inl rfl
  | some g => exact .inr (by simp)
theorem BookI.top_mono {w : World} {K base top top' : Nat} {L : List Value} (h : BookI w K base top L) (ht : top ≤ top') (hw : top' ≤ w.heap.size) : BookI w K base top' L :=
  ⟨h.book, fun i hi => (h.lists i hi).mono ht, hw⟩

theorem below_drewN' (w : World) (n : Nat) : Below w.heap.size w (w.drewN n) := below_drewN (Below.refl _ w) n

set_option maxRecDepth 100000 in
set_option maxHeartbeats 1000000 in
theorem sameInts_same (l : List Int) (a b : Value) (w : World) (ha : Ints w a l) (hb : Ints w b l) (hl : l.length ≤ 1000) :
    Calls Try.prog 13 #[a, b] w fun e w' => e = .returned (.bool true) ∧ Below w.heap.size w w' := by
  by_cases h0 : l.length = 0
  · have e : l = [] := List.length_eq_zero_iff.1 h0
    subst e
    have fa : ∃ ao ca, a = .slice ao 0 ca := by
      rcases ha with ⟨_, rfl⟩ | ⟨g, cap, rfl, _⟩
      · exact ⟨_, _, rfl⟩
      · exact ⟨_, _, rfl⟩
    have fb : ∃ ao ca, b = .slice ao 0 ca := by
      rcases hb with ⟨_, rfl⟩ | ⟨g, cap, rfl, _⟩
      · exact ⟨_, _, rfl⟩
      · exact ⟨_, _, rfl⟩
    obtain ⟨ao, ca, rfl⟩ := fa
    obtain ⟨bo, cb, rfl⟩ := fb
    clear ha hb
    go_enter Try.func13, Try.ntmps13
    go_wp2
    refine wp_loop_rounds 1 ?_
    rw [rounds_succ]
    go_wp2
    go_ret
    exact ⟨rfl, Below.refl _ _⟩
  · rcases ha with ⟨rfl, _⟩ | ⟨g, cap, rfl, hca⟩
    · simp at h0
    rcases hb with ⟨rfl, _⟩ | ⟨g2, cap2, rfl, hcb⟩
    · simp at h0
    have HA := hide hca
    have HB := hide hcb
    clear hca hcb
    go_enter Try.func13, Try.ntmps13
    go_wp2
    go_loopw [5] (fun i wr => ∃ (k n : Nat), k ≤ l.length ∧ i = .int .i64 (k : Int) ∧ wr = w.drewN n) (fun i _ => l.length - (intOf i).toNat)
    case atStart => exact ⟨0, 0, by omega, rfl, rfl⟩
    case round =>
      obtain ⟨k, n, hk, rfl, rfl⟩ := hrel
      by_cases hlt : k < l.length
      · have ca := HA.out k hlt
        have cb := HB.out k hlt
        obtain ⟨x, hx⟩ : ∃ x, l.getD k 0 = x := ⟨_, rfl⟩
        rw [hx] at ca cb
        clear hx
        have i0 : (0 : Int) ≤ (k : Int) := by omega
        have i1 : (k : Int) < (l.length : Int) := by omega
        go_wp2
        go_quiet (fail)
        go_wp2
        go_roundw
        case rel => exact ⟨k + 1, n + nq, by omega, by go_num, rfl⟩
        case measure => simp [intOf]; omega
      · go_wp2
        go_ret
        exact ⟨rfl, below_drewN' _ _⟩
end Go.Proofs.Ytpecfjejfkcolaa
