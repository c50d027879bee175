import Derived.Test.YtpecfjejfkcolaaPart6
/- The document's votes. -/
namespace Go.Proofs.Ytpecfjejfkcolaa
open Go.RowKit
set_option linter.unusedVariables false

theorem Try.info3 : (Try.prog.info? 3).map (fun i => (i.zero, i.size, i.bytes)) = some (some (.int .i64 0), 1, 8) := by kernel_rfl

theorem ints_of_owns {w : World} {base : Nat} {v : Value} {l : List Int} (h : w.ownsRow base 3 1 v l.length (l.map (Value.int .i64))) : Ints w v l := by
  obtain ⟨hl, h⟩ := h
  rcases h with ⟨rfl, h0⟩ | ⟨g, cap, cur, rfl, hb, hh, hc, hm, hs, ht⟩
  · exact .inl ⟨List.length_eq_zero_iff.1 h0, rfl⟩
  · refine .inr ⟨g, cap, rfl, fun j hj => ?_⟩
    have h' : w.ownsRow base 3 1 (.slice (some ⟨g, 0, none⟩) l.length cap) l.length (l.map (Value.int .i64)) := ⟨hl, .inr ⟨g, cap, cur, rfl, hb, hh, hc, hm, hs, ht⟩⟩
    rw [h'.cellAt j (by omega)]
    simp [List.getElem?_map, List.getElem?_eq_getElem hj, List.getD_eq_getElem?_getD]

theorem votesL_snoc (r : List Blk) (b : Blk) (sign node : Nat) : ∀ acc, votesL (r ++ [b]) sign node acc =
    (if b.2.1 = sign ∧ b.2.2 = node ∧ b.1 ∉ votesL r sign node acc then votesL r sign node acc ++ [b.1] else votesL r sign node acc) := by
  induction r with
  | nil => intro acc; rfl
  | cons c r ih => intro acc; simp only [List.cons_append, votesL]; exact ih _
theorem votesL_len (r : List Blk) (sign node : Nat) : ∀ acc, (votesL r sign node acc).length ≤ acc.length + r.length := by
  induction r with
  | nil => intro acc; simp [votesL]
  | cons c r ih =>
    intro acc
    simp only [votesL]
    refine Nat.le_trans (ih _) ?_
    split <;> simp <;> omega

/-- the first k blocks of a text -/
def blksTo (s : ByteArray) (k : Nat) : List Blk := (List.range k).map (blkAt s)
theorem blksTo_succ (s : ByteArray) (k : Nat) : blksTo s (k + 1) = blksTo s k ++ [blkAt s k] := by simp [blksTo, List.range_succ]
theorem blksTo_len (s : ByteArray) (k : Nat) : (blksTo s k).length = k := by simp [blksTo]

theorem votes_hit {s : ByteArray} {k sign node : Nat} (h : byt s (3 * k + 1) = sign ∧ byt s (3 * k + 2) - 48 = node ∧ byt s (3 * k) - 48 ∉ votesL (blksTo s k) sign node []) :
    votesL (blksTo s (k + 1)) sign node [] = votesL (blksTo s k) sign node [] ++ [byt s (3 * k) - 48] := by
  rw [blksTo_succ, votesL_snoc]; exact if_pos h
theorem votes_miss {s : ByteArray} {k sign node : Nat} (h : ¬ (byt s (3 * k + 1) = sign ∧ byt s (3 * k + 2) - 48 = node ∧ byt s (3 * k) - 48 ∉ votesL (blksTo s k) sign node [])) :
    votesL (blksTo s (k + 1)) sign node [] = votesL (blksTo s k) sign node [] := by
  rw [blksTo_succ, votesL_snoc]; exact if_neg h

def castL (l : List Nat) : List Int := l.map (fun n : Nat => (n : Int))
theorem mem_castL {n : Nat} {l : List Nat} : ((n : Int) ∈ castL l) ↔ n ∈ l := by
  unfold castL
  rw [List.mem_map]
  constructor
  · rintro ⟨a, ha, e⟩
    have : a = n := Int.ofNat.inj e
    exact this ▸ ha
  · intro h; exact ⟨n, h, rfl⟩

/-- BEHIND THE APPEND OF ONE NUMBER to a slice of the call's own -/
theorem push_ints {w0 wr w1 : World} {base : Nat} {l : List Int} {v v' : Value} {x : Int} {tmp : Obj} (hB : Below base w0 wr) (hsz : base ≤ wr.heap.size)
    (hown : wr.ownsRow base 3 1 v l.length (l.map (Value.int .i64))) (hown' : w1.ownsRow base 3 1 v' (l.length + 1) (l.map (Value.int .i64) ++ [.int .i64 x])) (hgrow : (wr.alloc tmp).grownBy w1 v.ownBlock) :
    w1.ownsRow base 3 1 v' (l ++ [x]).length ((l ++ [x]).map (Value.int .i64)) ∧ Below base w0 w1 := by
  refine ⟨by simpa using hown', (hB.alloc hsz tmp).grown hgrow (by simp; omega) fun k hk => (hown.lt k hk).1⟩
theorem castL_snoc (l : List Nat) (n : Nat) : castL (l ++ [n]) = castL l ++ [(n : Int)] := by simp [castL]

set_option maxRecDepth 100000 in
set_option maxHeartbeats 1000000 in
theorem votes_any (s : ByteArray) (sign node : Nat) (w : World) (hs : s.size = 9) (hg : sign < 256) (hn : node < 7) (hok : ∀ k, k < 3 → okAt s k = true) :
    Calls Try.prog 46 #[.string s, .int .u8 sign, .int .i64 node] w fun e w' => e = .returned (.int .i64 (votes (blksTo s 3) sign node)) ∧ Below w.heap.size w w' := by
  obtain ⟨i0, hi, hz0, hz1, hz2⟩ := info_parts Try.info3
  go_enter Try.func46, Try.ntmps46
  go_wp2
  go_loopw [7, 8] (fun v i wr => ∃ k : Nat, k ≤ 3 ∧ i = .int .i64 ((3 * k : Nat) : Int) ∧
      wr.ownsRow w.heap.size 3 1 v (castL (votesL (blksTo s k) sign node [])).length ((castL (votesL (blksTo s k) sign node [])).map (Value.int .i64)) ∧ Below w.heap.size w wr) (fun _ i _ => 9 - (intOf i).toNat)
  case atStart => exact ⟨0, Nat.zero_le _, rfl, World.ownsRow_nil _ _ _ _, Below.refl _ _⟩
  case round =>
    obtain ⟨k, hk, rfl, hown, hB⟩ := hrel
    have hlen : (castL (votesL (blksTo s k) sign node [])).length ≤ k := by
      have := votesL_len (blksTo s k) sign node []
      simpa [castL, blksTo_len] using this
    by_cases hlt : k < 3
    · have a0 : 3 * k < s.size := by omega
      have a1 : 3 * k + 1 < s.size := by omega
      have a2 : 3 * k + 2 < s.size := by omega
      have e0 := byt_eq s (3 * k) a0
      have e1 := byt_eq s (3 * k + 1) a1
      have e2 := byt_eq s (3 * k + 2) a2
      have hb := hok k hlt
      rw [okAt, blkOk_iff] at hb
      have HI := ints_of_owns hown
      have HOK : Hid (∀ k, k < 3 → okAt s k = true) := hok
      clear hok
      have hcast : ((byt s (3 * k) : Int) - 48) = ((byt s (3 * k) - 48 : Nat) : Int) := by omega
      have hsize := hB.size
      by_cases hP : byt s (3 * k + 1) = sign ∧ byt s (3 * k + 2) - 48 = node ∧ byt s (3 * k) - 48 ∉ votesL (blksTo s k) sign node []
      · have HS := hide (votes_hit hP)
        obtain ⟨hy, hz, hm⟩ := hP
        have hm' : decide (((byt s (3 * k) : Int) - 48) ∈ castL (votesL (blksTo s k) sign node [])) = false := by
          rw [hcast, decide_eq_false_iff_not, mem_castL]; exact hm
        have HC := hide hcast
        clear hcast hm
        have hyB : ((byt s (3 * k + 1) : Int) == (sign : Int)) = true := by simp [hy]
        have hzB : (((byt s (3 * k + 2) : Int) - 48) == (node : Int)) = true := by simp; omega
        have HY := hide hy
        have HZ := hide hz
        clear hy hz
        go_wp2_with (first
          | (go_at_call 27; refine (in_is false _ _ _ _ HI (by omega) hm').mono ?_; rintro e w' ⟨rfl, rfl⟩)
          | (at_builtin; refine wpList_append_own _ rfl _ _ 45 rfl w.heap.size 3 i0 (.int .i64 0) 1 8 Try.underlying45 hi hz0 hz1 hz2 rfl (by decide) _ _ _ rfl (hown.alloc _) ⟨_, 0, none⟩ 1 1 [.int .i64 ((byt s (3 * k) : Int) - 48)] rfl rfl (cell_one_new _ _ _) (by simp [Value.oneCell']) (by unfold maxLen; omega) (by omega) (by simp; omega) ?_; intro v' w1 hown' hgrow _))
        have R := push_ints hB hsize hown hown' hgrow
        rw [HC.out, ← castL_snoc, ← HS.out] at R
        clear hown' hgrow hown HI
        go_wp2
        go_roundw
        case rel => exact ⟨k + 1, by omega, by go_num, R.1, R.2⟩
        case measure => simp [intOf]; omega
      · have HS := hide (votes_miss hP)
        have HC := hide hcast
        have hmm : ∃ b, decide (((byt s (3 * k) : Int) - 48) ∈ castL (votesL (blksTo s k) sign node [])) = b := ⟨_, rfl⟩
        obtain ⟨b, hm'⟩ := hmm
        have hall : byt s (3 * k + 1) = sign → byt s (3 * k + 2) - 48 = node → b = true := by
          intro h1 h2
          cases b with
          | true => rfl
          | false =>
            rw [hcast, decide_eq_false_iff_not, mem_castL] at hm'
            exact absurd ⟨h1, h2, hm'⟩ hP
        clear hcast hP
        by_cases hy : byt s (3 * k + 1) = sign
        · have hyB : ((byt s (3 * k + 1) : Int) == (sign : Int)) = true := by simp [hy]
          by_cases hz : byt s (3 * k + 2) - 48 = node
          · have hzB : (((byt s (3 * k + 2) : Int) - 48) == (node : Int)) = true := by simp; omega
            have hbt := hall hy hz
            subst hbt
            clear hy hz hall
            go_wp2_with (go_at_call 27; refine (in_is true _ _ _ _ HI (by omega) hm').mono ?_; rintro e w' ⟨rfl, rfl⟩)
            go_roundw
            case rel => exact ⟨k + 1, by omega, by go_num, by rw [HS.out]; exact hown, hB⟩
            case measure => simp [intOf]; omega
          · have hzB : (((byt s (3 * k + 2) : Int) - 48) == (node : Int)) = false := by simp; omega
            clear hy hz hall
            go_wp2_with (go_at_call 27; refine (in_is b _ _ _ _ HI (by omega) hm').mono ?_; rintro e w' ⟨rfl, rfl⟩)
            go_roundw
            case rel => exact ⟨k + 1, by omega, by go_num, by rw [HS.out]; exact hown, hB⟩
            case measure => simp [intOf]; omega
        · have hyB : ((byt s (3 * k + 1) : Int) == (sign : Int)) = false := by simp; omega
          clear hy hall
          go_wp2_with (go_at_call 27; refine (in_is b _ _ _ _ HI (by omega) hm').mono ?_; rintro e w' ⟨rfl, rfl⟩)
          go_roundw
          case rel => exact ⟨k + 1, by omega, by go_num, by rw [HS.out]; exact hown, hB⟩
          case measure => simp [intOf]; omega
    · obtain rfl : k = 3 := by omega
      obtain ⟨hl0, hown⟩ := hown
      rcases hown with ⟨rfl, h0⟩ | ⟨g, cap, cur, rfl, _⟩
      · go_wp2
        go_ret
        exact ⟨ret_int (by simp only [castL, List.length_map] at h0; unfold votes; omega), hB⟩
      · go_wp2
        go_ret
        exact ⟨ret_int (by simp [votes, castL]), hB⟩
end Go.Proofs.Ytpecfjejfkcolaa

/- The document's turned. -/
namespace Go.Proofs.Ytpecfjejfkcolaa
open Go.RowKit
set_option linter.unusedVariables false

/-- a list of nodes that holds a set, in whatever order -/
def Holds7 (l : List Nat) (s : Nat) : Prop := (∀ x, x ∈ l → x < 7) ∧ (∀ x, x < 7 → (x ∈ l ↔ s.testBit x = true)) ∧ l.length = sizeS s

theorem Holds7.listed {s : Nat} : Holds7 (listed s) s :=
  ⟨fun _ h => (mem_listed.1 h).1, fun _ hx => ⟨fun h => (mem_listed.1 h).2, fun h => mem_listed.2 ⟨hx, h⟩⟩, rfl⟩
theorem Holds7.push {l : List Nat} {s n : Nat} (h : Holds7 l s) (hs : s < 128) (hn : n < 7) (hm : n ∉ l) : Holds7 (l ++ [n]) (withS s n) := by
  have ht : s.testBit n = false := by
    cases e : s.testBit n
    · rfl
    · exact absurd ((h.2.1 n hn).2 e) hm
  refine ⟨fun x hx => ?_, fun x hx => ?_, by rw [sizeS_with hs hn, ht]; simp [h.2.2]⟩
  · rcases List.mem_append.1 hx with h' | h'
    · exact h.1 x h'
    · simp at h'; omega
  · rw [has_with hs hn hx, List.mem_append, h.2.1 x hx]
    by_cases e : x = n
    · subst e; simp
    · simp [e]
theorem Holds7.same {l : List Nat} {s n : Nat} (h : Holds7 l s) (hs : s < 128) (hn : n < 7) (hm : n ∈ l) : Holds7 l (withS s n) := by
  have ht := (h.2.1 n hn).1 hm
  refine ⟨h.1, fun x hx => ?_, by rw [sizeS_with hs hn, ht]; simp [h.2.2]⟩
  rw [has_with hs hn hx, h.2.1 x hx]
  by_cases e : x = n
  · subst e; simp [ht]
  · simp [e]
def without (l : List Nat) (n : Nat) : List Nat := l.filter (fun x => x != n)
theorem without_len : ∀ (l : List Nat) (n : Nat), l.Nodup → n ∈ l → (without l n).length + 1 = l.length
  | [], n, _, h => by simp at h
  | a :: l, n, hd, h => by
    have hd' := List.nodup_cons.1 hd
    by_cases e : a = n
    · subst e
      have : without l a = l := List.filter_eq_self.2 fun x hx => by simp; intro e; exact hd'.1 (e ▸ hx)
      have h2 : without (a :: l) a = without l a := by simp [without]
      rw [h2, this]; simp
    · have h2 : without (a :: l) n = a :: without l n := by simp [without, e]
      have hm : n ∈ l := by simpa [Ne.symm e] using h
      rw [h2, List.length_cons, without_len l n hd'.2 hm, List.length_cons]
/-- the document's list as it goes: no node twice -/
def Walks7 (l : List Nat) (s : Nat) : Prop := l.Nodup ∧ Holds7 l s
theorem Walks7.listed {s : Nat} : Walks7 (listed s) s := ⟨List.Pairwise.filter _ List.nodup_range, Holds7.listed⟩
theorem Walks7.push {l : List Nat} {s n : Nat} (h : Walks7 l s) (hs : s < 128) (hn : n < 7) (hm : n ∉ l) : Walks7 (l ++ [n]) (withS s n) := by
  refine ⟨?_, h.2.push hs hn hm⟩
  rw [List.nodup_append]
  refine ⟨h.1, by simp, fun a ha b hb => ?_⟩
  simp at hb
  intro e
  exact hm (hb ▸ e ▸ ha)
theorem Walks7.same {l : List Nat} {s n : Nat} (h : Walks7 l s) (hs : s < 128) (hn : n < 7) (hm : n ∈ l) : Walks7 l (withS s n) := ⟨h.1, h.2.same hs hn hm⟩
theorem Walks7.drop {l : List Nat} {s n : Nat} (h : Walks7 l s) (hs : s < 128) (hn : n < 7) (hm : n ∈ l) : Walks7 (without l n) (withoutS s n) := by
  have ht := (h.2.2.1 n hn).1 hm
  refine ⟨List.Pairwise.filter _ h.1, fun x hx => h.2.1 x (List.mem_filter.1 hx).1, fun x hx => ?_, ?_⟩
  · rw [has_without hs hn hx, without, List.mem_filter, h.2.2.1 x hx]
    by_cases e : x = n
    · subst e; simp
    · simp [e]
  · have h1 := without_len l n h.1 hm
    have h2 := sizeS_without hs hn
    rw [ht] at h2
    simp at h2
    have h3 := h.2.2.2
    omega
theorem Walks7.len {l : List Nat} {s : Nat} (h : Walks7 l s) : l.length ≤ 7 := by rw [h.2.2.2]; exact sizeS_le
theorem Walks7.mem {l : List Nat} {s n : Nat} (h : Walks7 l s) (hn : n < 7) : decide (n ∈ l) = s.testBit n := by
  rw [Bool.eq_iff_iff, decide_eq_true_eq, h.2.2.1 n hn]
theorem without_snoc (l : List Nat) (k n : Nat) (hk : k < l.length) : without (l.take (k + 1)) n = if l[k] = n then without (l.take k) n else without (l.take k) n ++ [l[k]] := by
  rw [List.take_succ_eq_append_getElem hk]
  unfold without
  rw [List.filter_append]
  by_cases e : l[k] = n
  · rw [if_pos e]
    have : List.filter (fun x => x != n) [l[k]] = [] := by simp [e]
    rw [this, List.append_nil]
  · rw [if_neg e]
    have : List.filter (fun x => x != n) [l[k]] = [l[k]] := by simp [e]
    rw [this]
def listedTo (s k : Nat) : List Nat := (List.range k).filter (fun i => s.testBit i)
theorem listedTo_succ (s k : Nat) : listedTo s (k + 1) = if s.testBit k = true then listedTo s k ++ [k] else listedTo s k := by
  by_cases e : s.testBit k = true <;> simp [listedTo, List.range_succ, e]
theorem listedTo_len (s k : Nat) : (listedTo s k).length ≤ k := by
  have h := List.length_filter_le (fun i => s.testBit i) (List.range k)
  simpa [listedTo] using h
end Go.Proofs.Ytpecfjejfkcolaa
