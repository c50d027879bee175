/- The law's stays, where the book holds lists of numbers alone. -/
import Derived.Test.YtgeecddmificeaaBook
namespace Go.Proofs.Ytgeecddmificeaa
open Go.RowKit Go.Shelf
set_option linter.unusedVariables false

theorem cells_of_three {w : World} {b : Nat} {x y z : Value} {t : TypeId} (h : w.heap[b]? = some (.cells #[x, y, z] t (0, 0))) :
    w.cell? ⟨b, 0, none⟩ = some x ∧ w.cell? ⟨b, 1, none⟩ = some y ∧ w.cell? ⟨b, 2, none⟩ = some z := by
  refine ⟨?_, ?_, ?_⟩ <;> simp [World.cell?, h]
theorem row_slice {w : World} {base : Nat} {e : TypeId} {v : Value} {L : List Value} (h : w.ownsRow base e 1 v L.length L) :
    ∃ ao cap, v = .slice ao L.length cap ∧ (0 < L.length → ∃ R, ao = some ⟨R, 0, none⟩ ∧ ∀ i (hi : i < L.length), w.cell? ⟨R, i, none⟩ = some L[i]) := by
  have h' := h
  rcases h.2 with ⟨rfl, h0⟩ | ⟨g, cap, cur, rfl, _⟩
  · exact ⟨none, 0, by rw [h0], fun h => by omega⟩
  · refine ⟨_, cap, rfl, fun _ => ⟨g, rfl, fun i hi => ?_⟩⟩
    rw [h'.cellAt i (by omega), List.getElem?_eq_getElem hi]

set_option maxRecDepth 100000 in
set_option maxHeartbeats 1000000 in
theorem staysI_any (K base top : Nat) (L : List Value) (w : World) (hk : BookI w K base top L) (hL : L.length ≤ 100000000) :
    Calls Try.prog 8 #[.pointer (some ⟨K, 0, none⟩)] w fun e w' => e = .returned (.bool true) ∧ w' = w := by
  obtain ⟨⟨kv, hb, hrow⟩, hlists, _⟩ := hk
  obtain ⟨c0, c1, c2⟩ := cells_of_three hb
  obtain ⟨ao, cap, rfl, hcells⟩ := row_slice hrow
  have HC := hide hcells
  have HL := hide hlists
  clear hcells hlists hrow hb
  go_enter Try.func8, Try.ntmps8
  go_wp2
  go_loop [3] (fun i => ∃ k : Nat, k ≤ L.length ∧ i = .int .i64 (k : Int)) (fun i => L.length - (intOf i).toNat)
  case atStart => exact ⟨0, by omega, rfl⟩
  case round =>
    obtain ⟨k, hk, rfl⟩ := hrel
    by_cases hlt : k < L.length
    · obtain ⟨R, rfl, hcell⟩ := HC.out (by omega)
      have ck := hcell k hlt
      obtain ⟨ao2, n, cap2, hv, hn, hel⟩ := (HL.out k hlt).slice
      rw [hv] at ck
      have HEL := hide hel
      clear hcell hel
      have hkB : decide ((k : Int) < (L.length : Int)) = true := by simp; omega
      go_wp2
      go_loop [4] (fun i => ∃ j : Nat, j ≤ n ∧ i = .int .i64 (j : Int)) (fun i => n - (intOf i).toNat)
      case atStart => exact ⟨0, by omega, rfl⟩
      case round =>
        obtain ⟨j, hj, rfl⟩ := hrel
        by_cases hjl : j < n
        · obtain ⟨g, rfl, hcj⟩ := HEL.out (by omega)
          have cj := hcj j hjl
          have hx : markOf k = -1 - (k : Int) / 4 * 4 := by unfold markOf; simp
          rw [hx] at cj
          clear hx hcj
          go_wp2
          go_round
          case rel => exact ⟨j + 1, by omega, by go_num⟩
          case measure => simp [intOf]; omega
        · go_wp2
          go_round
          case rel => exact ⟨k + 1, by omega, by go_num⟩
          case measure => simp [intOf]; omega
    · go_wp2
      refine wp_loop_rounds 1 ?_
      rw [rounds_succ]
      go_wp2
      refine wp_loop_rounds 1 ?_
      rw [rounds_succ]
      go_wp2
      go_ret
      exact ⟨rfl, rfl⟩
end Go.Proofs.Ytgeecddmificeaa
