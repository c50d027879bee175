/- The law Chains, walked. -/
import Derived.Test.YtgeecddmificeaaChainLaw
import Derived.Deep.RegionHeld3
import Derived.Deep.DrawnRows
namespace Go.Proofs.Ytgeecddmificeaa
open Go.RowKit Go.Shelf
attribute [local go_sem ↓] Go.wp_at_zero Go.wp_at_succ
set_option linter.unusedVariables false

theorem bookI_new (w : World) : BookI (w.alloc (.cells #[.slice none 0 0, .slice none 0 0, .slice none 0 0] 28)) w.heap.size w.heap.size (w.alloc (.cells #[.slice none 0 0, .slice none 0 0, .slice none 0 0] 28)).heap.size [] :=
  ⟨⟨.slice none 0 0, World.alloc_heap_new w _, World.ownsRow_nil _ _ _ _⟩, fun i hi => by simp at hi, Nat.le_refl _⟩
theorem BookI.drew {w : World} {K base top : Nat} {L : List Value} (h : BookI w K base top L) : BookI w.drew K base top L := h.below (Below.refl _ w).drew

set_option maxRecDepth 100000 in
set_option maxHeartbeats 2000000 in
theorem chains_walk (ao : Option Addr) (len cap b off : Nat) (N R : Nat → Int) (T : Nat → ByteArray) (w : World) (hlen : len ≤ 1048576) (hcap : len ≤ cap) (hao : 0 < len → ao = some ⟨b, off, none⟩) (hb : 0 < len → b < w.heap.size)
    (hc : ∀ i, i < len → w.cell? ⟨b, off + i * 3, none⟩ = some (.int .i64 (N i)) ∧ w.cell? ⟨b, off + i * 3 + 1, none⟩ = some (.string (T i)) ∧ w.cell? ⟨b, off + i * 3 + 2, none⟩ = some (.int .i64 (R i)) ∧ (T i).size ≤ maxLen) :
    Calls Try.prog 3 #[.slice ao len cap] w fun e w' => e = .returned (.bool true) ∧ Below w.heap.size w w' := by
  have HC := hide hc
  have HAO := hide hao
  have HB := hide hb
  clear hc hao hb
  go_enter Try.func3, Try.ntmps3
  go_wp2
  go_loopw [4] (fun i wr => ∃ (k : Nat) (L : List Value), k ≤ len ∧ i = .int .i64 (k : Int) ∧ BookI wr w.heap.size w.heap.size wr.heap.size L ∧ Hid (L.length = 4 * k) ∧ Below w.heap.size w wr) (fun i _ => len - (intOf i).toNat)
  case atStart => exact ⟨0, [], by omega, rfl, bookI_new w, rfl, (Below.refl _ w).alloc (Nat.le_refl _) _⟩
  case round =>
    obtain ⟨k, L, hk, rfl, hbk, hL, hB⟩ := hrel
    have hsz := hB.size
    have HBK := hide hbk
    clear hbk
    by_cases hlt : k < len
    · have e := HAO.out (by omega)
      subst e
      have hbw := HB.out (by omega)
      obtain ⟨c0, c1, c2, ht⟩ := HC.out k hlt
      rw [← hB.cell (p := ⟨b, off + k * 3, none⟩) hbw] at c0
      rw [← hB.cell (p := ⟨b, off + k * 3 + 1, none⟩) hbw] at c1
      rw [← hB.cell (p := ⟨b, off + k * 3 + 2, none⟩) hbw] at c2
      obtain ⟨n, hn⟩ : ∃ n, N k = n := ⟨_, rfl⟩
      obtain ⟨t, htt⟩ : ∃ t, T k = t := ⟨_, rfl⟩
      obtain ⟨r, hr⟩ : ∃ r, R k = r := ⟨_, rfl⟩
      rw [hn] at c0
      rw [htt] at c1 ht
      rw [hr] at c2
      clear hn htt hr
      have i0 : (0 : Int) ≤ (k : Int) := by omega
      have i1 : (k : Int) < (len : Int) := by omega
      have HT := hide ht
      clear ht
      go_wp2
      go_region_held3 (fun w' => w'.cell? ⟨b, off + k * 3, none⟩ = some (.int .i64 n) ∧ w'.cell? ⟨b, off + k * 3 + 1, none⟩ = some (.string t) ∧ w'.cell? ⟨b, off + k * 3 + 2, none⟩ = some (.int .i64 r)) (go_keep)
        ((go_at_call 5; refine (chain_any w.heap.size w.heap.size L n r t _ HBK.out.drew (by have := hL.out; omega) (by have := hL.out; omega) (Nat.le_refl _) (by simp; omega) HT.out).mono ?_; rintro e w' ⟨rfl, hb', L', bk', hl'⟩; have d0 := (hb'.cell (p := ⟨b, off + k * 3, none⟩) hbw).trans c0; have d1 := (hb'.cell (p := ⟨b, off + k * 3 + 1, none⟩) hbw).trans c1; have d2 := (hb'.cell (p := ⟨b, off + k * 3 + 2, none⟩) hbw).trans c2; have BK' := hide bk'; have HL' := hide hl'; clear bk' hl'))
      go_wp2
      go_roundw
      case rel => exact ⟨k + 1, L', by omega, by go_num, BK'.out, by rw [HL'.out, hL.out]; show _ = _; omega, hB.trans ((Below.refl _ _).drew.trans hb')⟩
      case measure => simp [intOf]; omega
    · go_wp2_with (go_at_call 5; refine (chain_any w.heap.size w.heap.size L 4 2 _ _ HBK.out (by have := hL.out; omega) (by have := hL.out; omega) (Nat.le_refl _) hsz (by decide)).mono ?_; rintro e w' ⟨rfl, hb', _⟩)
      go_ret
      exact ⟨rfl, hB.trans hb'⟩
end Go.Proofs.Ytgeecddmificeaa
