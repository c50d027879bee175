import Derived.Test.YtpecfjejfkcolaaPart31
import Derived.Test.YtpecfjejfkcolaaRows
import Derived.ProofKit
import Derived.OpenShut
import Derived.JoinedCond
import Derived.Deep.Slices
import Derived.Deep.Strs
import Derived.Lib.SmallJoins
/- The law Codes, walked. -/
namespace Go.Proofs.Ytpecfjejfkcolaa
open Go.RowKit Go.Shelf
set_option linter.unusedVariables false

theorem bookM_new (w : World) : BookM (w.alloc (.cells #[.slice none 0 0, .slice none 0 0, .slice none 0 0] 28)) w.heap.size w.heap.size (w.alloc (.cells #[.slice none 0 0, .slice none 0 0, .slice none 0 0] 28)).heap.size [] :=
  ⟨⟨.slice none 0 0, World.alloc_heap_new w _, World.ownsRow_nil _ _ _ _⟩, fun i hi => by simp at hi, Nat.le_refl _⟩
/-- the cells of a message that came in -/
def MsgAt (w : World) (b off : Nat) (m : Mg) (v : Value) : Prop :=
  (w.cell? ⟨b, off, none⟩ = some (.int .i64 m.kind) ∧ w.cell? ⟨b, off + 1, none⟩ = some (.int .i64 m.frm) ∧ w.cell? ⟨b, off + 2, none⟩ = some (.int .i64 m.height) ∧ w.cell? ⟨b, off + 3, none⟩ = some (.int .i64 m.round) ∧ w.cell? ⟨b, off + 4, none⟩ = some (.string m.chain) ∧ w.cell? ⟨b, off + 5, none⟩ = some (.int .i64 m.prep) ∧ w.cell? ⟨b, off + 6, none⟩ = some (.int .i64 m.by') ∧ w.cell? ⟨b, off + 7, none⟩ = some v) ∧
  MovesAt w v m.moves ∧ m.chain.size ≤ maxLen ∧ m.moves.length ≤ 1100000
theorem MsgAt.below {w w' : World} {b off : Nat} {m : Mg} {v : Value} (h : MsgAt w b off m v) (hb : Below w.heap.size w w') (hlt : b < w.heap.size) : MsgAt w' b off m v := by
  obtain ⟨⟨c0, c1, c2, c3, c4, c5, c6, c7⟩, hv, h2⟩ := h
  exact ⟨⟨(hb.cell (p := ⟨b, _, none⟩) hlt).trans c0, (hb.cell (p := ⟨b, _, none⟩) hlt).trans c1, (hb.cell (p := ⟨b, _, none⟩) hlt).trans c2, (hb.cell (p := ⟨b, _, none⟩) hlt).trans c3, (hb.cell (p := ⟨b, _, none⟩) hlt).trans c4, (hb.cell (p := ⟨b, _, none⟩) hlt).trans c5, (hb.cell (p := ⟨b, _, none⟩) hlt).trans c6, (hb.cell (p := ⟨b, _, none⟩) hlt).trans c7⟩, hv.below hb, h2⟩
def lastMoves : List Mv := [⟨0, 0, ⟨#[49, 46, 48]⟩, 7⟩, ⟨3, -1, ⟨#[]⟩, 0⟩]
theorem last_at (w : World) : MovesAt (w.alloc (.cells #[.int .i64 0, .int .i64 0, .string ⟨#[49, 46, 48]⟩, .int .i64 7, .int .i64 3, .int .i64 (-1), .string ⟨#[]⟩, .int .i64 0] 43)) (.slice (some ⟨w.heap.size, 0, none⟩) 2 2) lastMoves :=
  movesAt_front (l := lastMoves) (r := []) (World.alloc_heap_new w _) rfl (by intro x hx; simp [lastMoves] at hx; rcases hx with rfl | rfl <;> (unfold maxLen; decide)) (by decide)

set_option maxRecDepth 100000 in
set_option maxHeartbeats 8000000 in
theorem codes_walk (ao : Option Addr) (len cap b off : Nat) (bo : Option Addr) (len2 cap2 b2 off2 : Nat) (M : Nat → Mg) (V : Nat → Value) (T : Nat → ByteArray) (w : World)
    (hlen : len ≤ 1048576) (hcap : len ≤ cap) (hao : 0 < len → ao = some ⟨b, off, none⟩) (hb : 0 < len → b < w.heap.size) (hm : ∀ i, i < len → MsgAt w b (off + i * 8) (M i) (V i))
    (hlen2 : len2 ≤ 1048576) (hcap2 : len2 ≤ cap2) (hao2 : 0 < len2 → bo = some ⟨b2, off2, none⟩) (hb2 : 0 < len2 → b2 < w.heap.size) (ht : ∀ i, i < len2 → w.cell? ⟨b2, off2 + i, none⟩ = some (.string (T i)) ∧ (T i).size ≤ maxLen) :
    Calls Try.prog 4 #[.slice ao len cap, .slice bo len2 cap2] w fun e w' => e = .returned (.bool true) ∧ Below w.heap.size w w' := by
  have HM := hide hm
  have HAO := hide hao
  have HB := hide hb
  have HT := hide ht
  have HAO2 := hide hao2
  have HB2 := hide hb2
  clear hm hao hb ht hao2 hb2
  go_enter Try.func4, Try.ntmps4
  go_wp2
  go_loopw [6] (fun i wr => ∃ (k : Nat) (L : List Value), (k ≤ len ∨ k ≤ len2) ∧ i = .int .i64 (k : Int) ∧ Hid (BookM wr w.heap.size w.heap.size wr.heap.size L) ∧ Hid (L.length ≤ 8 * k ∧ L.length % 4 = 0) ∧ Hid (Below w.heap.size w wr)) (fun i _ => len + len2 + 1 - (intOf i).toNat)
  case atStart => exact ⟨0, [], by omega, rfl, bookM_new w, ⟨by simp, rfl⟩, (Below.refl _ w).alloc (Nat.le_refl _) _⟩
  case round =>
    obtain ⟨k, L, hk, rfl, hbk, hL, hB⟩ := hrel
    have hsz := hB.out.size
    have k0 : (0 : Int) ≤ (k : Int) := by omega
    have hl1 : L.length ≤ 90000000 := by have := hL.out.1; omega
    have hl0 : L.length ≤ 80000000 := by have := hL.out.1; omega
    by_cases h1 : k < len
    · have e := HAO.out (by omega)
      subst e
      have hbw := HB.out (by omega)
      have hmsg := (HM.out k h1).below hB.out hbw
      obtain ⟨v, hv⟩ : ∃ v, V k = v := ⟨_, rfl⟩
      obtain ⟨m, hmm⟩ : ∃ m, M k = m := ⟨_, rfl⟩
      rw [hv, hmm] at hmsg
      clear hv hmm
      obtain ⟨kk, f, h, r, c, p, bb, l⟩ := m
      obtain ⟨⟨c0, c1, c2, c3, c4, c5, c6, c7⟩, hmv, hcs, hml⟩ := hmsg
      obtain ⟨vo, vc, rfl, hvv⟩ := hmv.open'
      dsimp only at c0 c1 c2 c3 c4 c5 c6 c7 hmv hcs hml
      have HMV := hide hmv
      clear hvv hmv
      have hA := fun (W : World) (hW : BookM W w.heap.size w.heap.size W.heap.size L) (hWs : w.heap.size ≤ W.heap.size) (hWv : MovesAt W (.slice vo l.length vc) l) => lawEnc_any w.heap.size w.heap.size L ⟨kk, f, h, r, c, p, bb, l⟩ (.slice vo l.length vc) W hW hl1 hL.out.2 (Nat.le_refl _) hWs hWv hcs hml
      have HA := hide hA
      clear hA
      have i1 : (k : Int) < (len : Int) := by omega
      have i1B : decide ((k : Int) < (len : Int)) = true := by simp; omega
      by_cases h2 : k < len2
      · have e2 := HAO2.out (by omega)
        subst e2
        have hbw2 := HB2.out (by omega)
        obtain ⟨t, htt⟩ : ∃ t, T k = t := ⟨_, rfl⟩
        obtain ⟨d0, hts⟩ := HT.out k h2
        rw [htt] at d0 hts
        clear htt
        have i2 : (k : Int) < (len2 : Int) := by omega
        have i2B : decide ((k : Int) < (len2 : Int)) = true := by simp; omega
        go_wp2_with (first
          | (go_at_call 6; refine (HA.out _ hbk.out hsz HMV.out).mono ?_; rintro e w1 ⟨rfl, hb1, L1, bk1, hl1'⟩; have BK1 := hide bk1; have HL1 := hide hl1'; have d1 := ((hB.out.trans hb1).cell (p := ⟨b2, off2 + k, none⟩) hbw2).trans d0; clear bk1 hl1')
          | (go_at_call 7; refine (lawDec_any w.heap.size w.heap.size L1 t _ BK1.out (by have := HL1.out; omega) (by have := HL1.out; have := hL.out.2; omega) (Nat.le_refl _) (Nat.le_trans hsz hb1.size) hts).mono ?_; rintro e w2 ⟨rfl, hbb2, L2, bk2, hl2'⟩; have BK2 := hide bk2; have HL2 := hide hl2'; clear bk2 hl2')
          | (go_at_call 8; refine (staysM_any w.heap.size w.heap.size _ L2 _ BK2.out (by have := HL1.out; have := HL2.out; omega)).mono ?_; rintro e w3 ⟨rfl, hb3⟩; have BK3 := hide (BK2.out.below hb3)))
        have s1 := hb1.size
        have s2 := hbb2.size
        go_roundw
        case rel => exact ⟨k + 1, L2, by omega, by go_num, BK3.out.top_mono hb3.size (Nat.le_refl _), ⟨by have := HL1.out; have := HL2.out; have := hL.out.1; omega, by have := HL1.out; have := HL2.out; have := hL.out.2; omega⟩, ((hB.out.trans hb1).trans hbb2).trans (hb3.mono (by omega))⟩
        case measure => simp [intOf]; omega
      · have i2B : decide ((k : Int) < (len2 : Int)) = false := by simp; omega
        go_wp2_with (first
          | (go_at_call 6; refine (HA.out _ hbk.out hsz HMV.out).mono ?_; rintro e w1 ⟨rfl, hb1, L1, bk1, hl1'⟩; have BK1 := hide bk1; have HL1 := hide hl1'; clear bk1 hl1')
          | (go_at_call 8; refine (staysM_any w.heap.size w.heap.size _ L1 _ BK1.out (by have := HL1.out; omega)).mono ?_; rintro e w3 ⟨rfl, hb3⟩; have BK3 := hide (BK1.out.below hb3)))
        have s1 := hb1.size
        go_roundw
        case rel => exact ⟨k + 1, L1, by omega, by go_num, BK3.out.top_mono hb3.size (Nat.le_refl _), ⟨by have := HL1.out; have := hL.out.1; omega, by have := HL1.out; have := hL.out.2; omega⟩, (hB.out.trans hb1).trans (hb3.mono (by omega))⟩
        case measure => simp [intOf]; omega
    · have i1B : decide ((k : Int) < (len : Int)) = false := by simp; omega
      by_cases h2 : k < len2
      · have e2 := HAO2.out (by omega)
        subst e2
        have hbw2 := HB2.out (by omega)
        obtain ⟨t, htt⟩ : ∃ t, T k = t := ⟨_, rfl⟩
        obtain ⟨d0, hts⟩ := HT.out k h2
        rw [htt] at d0 hts
        clear htt
        have d1 := (hB.out.cell (p := ⟨b2, off2 + k, none⟩) hbw2).trans d0
        have i2 : (k : Int) < (len2 : Int) := by omega
        have i2B : decide ((k : Int) < (len2 : Int)) = true := by simp; omega
        go_wp2_with (first
          | (go_at_call 7; refine (lawDec_any w.heap.size w.heap.size L t _ hbk.out hl1 hL.out.2 (Nat.le_refl _) hsz hts).mono ?_; rintro e w2 ⟨rfl, hbb2, L2, bk2, hl2'⟩; have BK2 := hide bk2; have HL2 := hide hl2'; clear bk2 hl2')
          | (go_at_call 8; refine (staysM_any w.heap.size w.heap.size _ L2 _ BK2.out (by have := HL2.out; omega)).mono ?_; rintro e w3 ⟨rfl, hb3⟩; have BK3 := hide (BK2.out.below hb3)))
        have s2 := hbb2.size
        go_roundw
        case rel => exact ⟨k + 1, L2, by omega, by go_num, BK3.out.top_mono hb3.size (Nat.le_refl _), ⟨by have := HL2.out; have := hL.out.1; omega, by have := HL2.out; have := hL.out.2; omega⟩, (hB.out.trans hbb2).trans (hb3.mono (by omega))⟩
        case measure => simp [intOf]; omega
      · have i2B : decide ((k : Int) < (len2 : Int)) = false := by simp; omega
        have hlast := fun (W : World) (u : Value) (hW : BookM W w.heap.size w.heap.size W.heap.size L) (hWs : w.heap.size ≤ W.heap.size) (hWv : MovesAt W u lastMoves) => lawEnc_any w.heap.size w.heap.size L ⟨1, 2, 1, 1, ⟨#[49, 46, 48]⟩, -1, 0, lastMoves⟩ u W hW hl1 hL.out.2 (Nat.le_refl _) hWs hWv (by unfold maxLen; decide) (by decide)
        have HLAST := hide hlast
        clear hlast
        have HBA := hide ((hbk.out.below ((Below.refl _ wr).alloc (Nat.le_refl _) (.cells #[.int .i64 0, .int .i64 0, .string ⟨#[49, 46, 48]⟩, .int .i64 7, .int .i64 3, .int .i64 (-1), .string ⟨#[]⟩, .int .i64 0] 43))).top_mono (by simp) (Nat.le_refl _))
        go_wp2_with (first
          | (go_at_call 6; refine (HLAST.out _ _ HBA.out (by simp; omega) (last_at _)).mono ?_; rintro e w1 ⟨rfl, hb1, L1, bk1, hl1'⟩; have BK1 := hide bk1; have HL1 := hide hl1'; clear bk1 hl1')
          | (go_at_call 7; refine (lawDec_any w.heap.size w.heap.size L1 _ _ BK1.out (by have := HL1.out; omega) (by have := HL1.out; have := hL.out.2; omega) (Nat.le_refl _) (by have := hb1.size; simp at this; omega) (by unfold maxLen; decide)).mono ?_; rintro e w2 ⟨rfl, hbb2, _⟩))
        go_ret
        exact ⟨rfl, ((hB.out.alloc hsz _).trans hb1).trans hbb2⟩
end Go.Proofs.Ytpecfjejfkcolaa

/- ████ What came in, opened: Moves, messages. -/
namespace Go.Proofs.Ytpecfjejfkcolaa.codesLaw
open Go.ChangeShapes Go.WideShapes Go.ChangeAt Go.RowKit
open Go.ChangeMaps (open_string shut_string)
open Go.Deep
set_option linter.unusedVariables false

theorem cellsMv : Try.prog.cellsOf 43 = 4 := by kernel_rfl
theorem cellsMg : Try.prog.cellsOf 39 = 8 := by kernel_rfl
theorem cellsMs : Try.prog.cellsOf 37 = 1 := by kernel_rfl
theorem cellsK : Try.prog.cellsOf 36 = 1 := by kernel_rfl
theorem cells3 : Try.prog.cellsOf 3 = 1 := by kernel_rfl
theorem cells9 : Try.prog.cellsOf 9 = 1 := by kernel_rfl

theorem bulk_pos {H : Type} (x : DataW H) : 1 ≤ Rows.uptoBulk x := by
  cases x with
  | lit l => cases l <;> simp [Rows.uptoBulk]
  | nil => simp [Rows.uptoBulk]
  | ptr d => simp [Rows.uptoBulk]
  | slice elems spare => simp [Rows.uptoBulk]
  | agg parts => simp [Rows.uptoBulk]
  | iface t d => simp [Rows.uptoBulk]
  | map entries => simp [Rows.uptoBulk]
  | held h => simp [Rows.uptoBulk]
theorem length_le {H : Type} (l : List (DataW H)) : l.length ≤ Rows.uptoBulkAll l := by
  induction l with
  | nil => simp [Rows.uptoBulkAll]
  | cons x r ih =>
    have h1 := bulk_pos x
    simp only [Rows.uptoBulkAll, List.length_cons]
    omega
theorem mem_le {H : Type} {x : DataW H} : ∀ {l : List (DataW H)}, x ∈ l → Rows.uptoBulk x ≤ Rows.uptoBulkAll l
  | y :: r, h => by
    simp only [Rows.uptoBulkAll]
    rcases List.mem_cons.1 h with rfl | h
    · omega
    · have := mem_le h
      omega
theorem slice_le {H : Type} {elems spare : List (DataW H)} : elems.length ≤ Rows.uptoBulk (.slice elems spare) := by
  have := length_le elems
  simp only [Rows.uptoBulk]
  omega
theorem slice_mem {H : Type} {elems spare : List (DataW H)} {x : DataW H} (h : x ∈ elems) : Rows.uptoBulk x ≤ Rows.uptoBulk (.slice elems spare) := by
  have := mem_le h
  simp only [Rows.uptoBulk]
  omega

section
variable {H : Type} {enc : TypeId × Value → H} {W : World} {base : Nat} {fuel : Nat}
theorem trod_struct8 {P : Program} {spare : Nat → Bool} {held : Bool} {t : TypeId} {f0 f1 f2 f3 f4 f5 f6 f7 : Field} {cs : List Value} {x : DataW H × List MemPlace} (ht : P.underlying t = some (.struct #[f0, f1, f2, f3, f4, f5, f6, f7])) (h : DataW.trod enc P W base spare held fuel t cs = some x) :
    ∃ y0 y1 y2 y3 y4 y5 y6 y7 n, x.1 = .agg [y0.1, y1.1, y2.1, y3.1, y4.1, y5.1, y6.1, y7.1] ∧ cs.length = P.cellsOf t ∧ DataW.trod enc P W base spare held n f0.type ((cs.drop f0.offset).take (P.cellsOf f0.type)) = some y0 ∧
      DataW.trod enc P W base spare held n f1.type ((cs.drop f1.offset).take (P.cellsOf f1.type)) = some y1 ∧ DataW.trod enc P W base spare held n f2.type ((cs.drop f2.offset).take (P.cellsOf f2.type)) = some y2 ∧
      DataW.trod enc P W base spare held n f3.type ((cs.drop f3.offset).take (P.cellsOf f3.type)) = some y3 ∧ DataW.trod enc P W base spare held n f4.type ((cs.drop f4.offset).take (P.cellsOf f4.type)) = some y4 ∧
      DataW.trod enc P W base spare held n f5.type ((cs.drop f5.offset).take (P.cellsOf f5.type)) = some y5 ∧ DataW.trod enc P W base spare held n f6.type ((cs.drop f6.offset).take (P.cellsOf f6.type)) = some y6 ∧
      DataW.trod enc P W base spare held n f7.type ((cs.drop f7.offset).take (P.cellsOf f7.type)) = some y7 := by
  obtain ⟨xs, n, _, rfl, hl, hlen, hf⟩ := DataW.trod_struct ht h
  match xs, hlen with
  | [y0, y1, y2, y3, y4, y5, y6, y7], _ => exact ⟨y0, y1, y2, y3, y4, y5, y6, y7, n, by simp, hl, by simpa using hf 0 f0 rfl, by simpa using hf 1 f1 rfl, by simpa using hf 2 f2 rfl, by simpa using hf 3 f3 rfl, by simpa using hf 4 f4 rfl, by simpa using hf 5 f5 rfl, by simpa using hf 6 f6 rfl, by simpa using hf 7 f7 rfl⟩

set_option maxRecDepth 100000 in
theorem open_move {cs : List Value} {d : DataW H × List MemPlace} (h : DataW.trod enc Try.prog W base (fun _ => true) true fuel 43 cs = some d) : ∃ x : Mv, cs = mvL x ∧ x.chain.size ≤ maxLen := by
  obtain ⟨y0, y1, y2, y3, k, hy, hcl, t0, t1, t2, t3⟩ := Go.Joins.trod_struct4 Try.underlying43 h
  rw [cellsMv] at hcl
  match cs, hcl with
  | [x0, x1, x2, x3], _ =>
    obtain ⟨x, hx0, _, _⟩ := DataW.trod_int Try.underlying3 t0
    obtain ⟨z, hx1, _, _⟩ := DataW.trod_int Try.underlying3 t1
    obtain ⟨s, hx2, _, hs⟩ := DataW.trod_string Try.underlying9 t2
    obtain ⟨y, hx3, _, _⟩ := DataW.trod_int Try.underlying3 t3
    simp only [cells3, cells9] at hx0 hx1 hx2 hx3
    simp at hx0 hx1 hx2 hx3
    subst hx0 hx1 hx2 hx3
    exact ⟨⟨x, z, s, y⟩, rfl, hs⟩
set_option maxRecDepth 100000 in
theorem open_moves {v : Value} {d : DataW H × List MemPlace} (h : DataW.trod enc Try.prog W base (fun _ => true) true fuel 37 [v] = some d) (hk : Rows.uptoBulk d.1 ≤ 1048576) : ∃ l : List Mv, MovesAt W v l ∧ l.length ≤ 1100000 := by
  rcases open_slice Try.underlying37 h with ⟨hcs, hx⟩ | ⟨a, len, cap, m, n, D, Pl, hcs, hba, hl, hm, hmm, hx, hel⟩
  · simp at hcs
    subst hcs
    exact ⟨[], movesAt_nil _, by simp⟩
  · simp at hcs
    subst hcs
    rw [hx] at hk
    have hlen : len ≤ 1048576 := by
      have := Nat.le_trans slice_le hk
      simpa using this
    simp only [if_true] at hmm
    subst hmm
    have hcell : ∀ i, i < len → ∃ x : Mv, (W.cell? (a.add (i * 4)) = some (.int .i64 x.node) ∧ W.cell? (a.add (i * 4 + 1)) = some (.int .i64 x.prep) ∧ W.cell? (a.add (i * 4 + 2)) = some (.string x.chain) ∧ W.cell? (a.add (i * 4 + 3)) = some (.int .i64 x.by')) ∧ x.chain.size ≤ maxLen := by
      intro i hi
      obtain ⟨cs', hc1, hc2⟩ := hel i (by omega)
      rw [cellsMv] at hc1
      obtain ⟨_, hcl, hcc⟩ := World.cells?_some hc1
      obtain ⟨x, rfl, hxs⟩ := open_move hc2
      have e0 := hcc 0 (by omega)
      have e1 := hcc 1 (by omega)
      have e2 := hcc 2 (by omega)
      have e3 := hcc 3 (by omega)
      simp only [mvL, List.getElem?_cons_zero, List.getElem?_cons_succ, Addr.add_add, Nat.add_zero] at e0 e1 e2 e3
      exact ⟨x, ⟨e0, e1, e2, e3⟩, hxs⟩
    have : Inhabited Mv := ⟨noMv⟩
    obtain ⟨f, hfun⟩ := choose_lt hcell
    refine ⟨(List.range len).map f, ⟨⟨some a, m, by simp, fun h0 => ?_⟩, ?_, by simp; omega⟩, by simp; omega⟩
    · simp at h0
      obtain ⟨b, off, spot⟩ := a
      have h00 := (hfun 0 h0).1.1
      have hspot : spot = none := by simpa [Addr.add] using World.cell?_spot h00
      subst hspot
      have hb : b < W.heap.size := by
        have := World.block_lt_of_cell? W _ h00
        rw [add_plain] at this
        exact this
      refine ⟨b, off, rfl, hb, fun i hi => ?_⟩
      simp at hi
      obtain ⟨⟨g0, g1, g2, g3⟩, _⟩ := hfun i hi
      rw [add_plain] at g0 g1 g2 g3
      simp only [List.getElem_map, List.getElem_range]
      exact ⟨g0, g1, g2, g3⟩
    · intro x hx
      simp at hx
      obtain ⟨i, hi, rfl⟩ := hx
      exact (hfun i hi).2
set_option maxRecDepth 100000 in
theorem open_msg {cs : List Value} {d : DataW H × List MemPlace} (h : DataW.trod enc Try.prog W base (fun _ => true) true fuel 39 cs = some d) (hk : Rows.uptoBulk d.1 ≤ 1048576) :
    ∃ (m : Mg) (v : Value), cs = [.int .i64 m.kind, .int .i64 m.frm, .int .i64 m.height, .int .i64 m.round, .string m.chain, .int .i64 m.prep, .int .i64 m.by', v] ∧ MovesAt W v m.moves ∧ m.chain.size ≤ maxLen ∧ m.moves.length ≤ 1100000 := by
  obtain ⟨y0, y1, y2, y3, y4, y5, y6, y7, k, hy, hcl, t0, t1, t2, t3, t4, t5, t6, t7⟩ := trod_struct8 Try.underlying39 h
  rw [cellsMg] at hcl
  match cs, hcl with
  | [x0, x1, x2, x3, x4, x5, x6, x7], _ =>
    obtain ⟨a0, hx0, _, _⟩ := DataW.trod_int Try.underlying36 t0
    obtain ⟨a1, hx1, _, _⟩ := DataW.trod_int Try.underlying3 t1
    obtain ⟨a2, hx2, _, _⟩ := DataW.trod_int Try.underlying3 t2
    obtain ⟨a3, hx3, _, _⟩ := DataW.trod_int Try.underlying3 t3
    obtain ⟨a4, hx4, _, hs⟩ := DataW.trod_string Try.underlying9 t4
    obtain ⟨a5, hx5, _, _⟩ := DataW.trod_int Try.underlying3 t5
    obtain ⟨a6, hx6, _, _⟩ := DataW.trod_int Try.underlying3 t6
    simp only [cells3, cells9, cellsK] at hx0 hx1 hx2 hx3 hx4 hx5 hx6
    simp at hx0 hx1 hx2 hx3 hx4 hx5 hx6
    subst hx0 hx1 hx2 hx3 hx4 hx5 hx6
    simp only [cellsMs] at t7
    have t7' : DataW.trod enc Try.prog W base (fun _ => true) true k 37 [x7] = some y7 := t7
    have hk7 : Rows.uptoBulk y7.1 ≤ 1048576 := by
      rw [hy] at hk
      have := mem_le (x := y7.1) (l := [y0.1, y1.1, y2.1, y3.1, y4.1, y5.1, y6.1, y7.1]) (by simp)
      simp only [Rows.uptoBulk] at hk
      omega
    obtain ⟨l, hl, hll⟩ := open_moves t7' hk7
    exact ⟨⟨a0, a1, a2, a3, a4, a5, a6, l⟩, x7, rfl, hl, hs, hll⟩
end
end Go.Proofs.Ytpecfjejfkcolaa.codesLaw
