import Derived.Test.YtpecfjejfkcolaaPart9
/- chains.nodeAt, moot.Members' own loop. -/
namespace Go.Proofs.Ytpecfjejfkcolaa
open Go.RowKit Go.Shelf
attribute [local go_sem] Oper.semAt_some
set_option linter.unusedVariables false

theorem boxed_keep_set {W : World} {B b : Nat} {t : TypeId} {v : Value} (h : Boxed W B t v) (hne : B ≠ b) (u : Value) : Boxed (W.setCell ⟨b, 0, none⟩ u) B t v :=
  (Below.heap_setCell W ⟨b, 0, none⟩ u B hne).trans h
theorem keepB_set {W : World} {B b : Nat} (hne : B ≠ b) (u : Value) : KeepB B W (W.setCell ⟨b, 0, none⟩ u) := Below.heap_setCell W ⟨b, 0, none⟩ u B hne
theorem boxed_own' {β : Type} (B : Nat) (t : TypeId) (f : β → Value) : Own (fun (s : β) W => Boxed W B t (f s)) := by
  rintro s X Y row hv hg hrow
  refine hv.kept hg (fun e' => ?_)
  obtain ⟨o, ho, hc⟩ := hrow B e'.symm
  rw [show X.heap[B]? = _ from hv] at ho; cases ho; cases hc
theorem boxed_put {W : World} {B l : Nat} {t : TypeId} {v : Value} {o : Obj} (h : Boxed W B t v) (o' : Obj) (hl : W.heap[l]? = some o) (ho : o.isCells = false) : Boxed (W.putObj l o') B t v :=
  Own.putObj (boxed_own' B t (fun _ : Unit => v)) o' (s := ()) h hl ho

set_option maxRecDepth 100000 in
set_option maxHeartbeats 2000000 in
theorem nodeAt_any (s p : Nat) (hs : s < 128) (hp : p < sizeS s) (w : World) :
    Calls Try.prog 61 #[.int .i64 (s : Int), .int .i64 (p : Int)] w fun e w' => e = .returned (.int .i64 (((listed s).getD p 0 : Nat) : Int)) ∧ Below w.heap.size w w' := by
  have hp7 : sizeS s ≤ 7 := sizeS_le
  refine (callsIn_wide (n := 6)).1 ?_
  refine callsIn_of_wp_marks Try.func61 rfl trivial ?_ rfl
  simp only [Try.ntmps61, List.size_toArray, List.length_cons, List.length_nil, Nat.reduceAdd, Nat.reduceSub, Array.replicate_succ, Array.replicate_zero, List.push_toArray, List.append_toArray, List.nil_append, List.cons_append]
  gi_wp2_with (refine ⟨trivial, ?_⟩; gi_at_call 24; refine (callsIn_wide.2 (nodes_any _ _)).mono ?_; rintro e w' ⟨rfl, rfl⟩)
  have b0 := Boxed.new w 3 (.int .i64 (p : Int))
  have b1 := Boxed.new (w.alloc (.cells #[.int .i64 (p : Int)] 3)) 3 (.int .i64 0)
  have b2 := Boxed.new ((w.alloc (.cells #[.int .i64 (p : Int)] 3)).alloc (.cells #[.int .i64 0] 3)) 66 (.int .i64 (s : Int))
  simp only [World.size_alloc] at b1 b2
  have hB0 : Below w.heap.size w (((w.alloc (.cells #[.int .i64 (p : Int)] 3)).alloc (.cells #[.int .i64 0] 3)).alloc (.cells #[.int .i64 (s : Int)] 66)) := (((Below.refl _ w).alloc (Nat.le_refl _) _).alloc (by simp) _).alloc (by simp; omega) _
  refine wpIn_rangeFunc_ownG rfl (by omega) (gf := 44) (lb := #[.pointer (some ⟨w.heap.size + 1 + 1, 0, none⟩)]) rfl trivial (enters_of Try.func44 (by kernel_rfl) rfl)
    (nodes_stops 5 (by omega) (w.heap.size + 1 + 1) s hs _ b2) keepB_t (keepB_b (by simp)) (Below.refl _ _) (fun _ => rfl)
    (fun pre W => ((pre.length ≤ p ∧ Boxed W w.heap.size 3 (.int .i64 ((p : Int) - (pre.length : Int)))) ∧ Boxed W (w.heap.size + 1) 3 (.int .i64 0)) ∧ Below w.heap.size w W)
    (fun c pre W => (c = .ret ∧ ∃ x : Fin 7, pre[p]? = some x ∧ Boxed W (w.heap.size + 1) 3 (.int .i64 (x.1 : Int))) ∧ Below w.heap.size w W)
    (OwnFrom.and (Own.from (fun s A B row hs hg hr => ⟨⟨hs.1.1, boxed_own' _ _ (fun pre : List (Fin 7) => Value.int .i64 ((p : Int) - (pre.length : Int))) s A B row hs.1.2 hg hr⟩, boxed_own' _ _ (fun _ : List (Fin 7) => Value.int .i64 0) s A B row hs.2 hg hr⟩) _) (ownFrom_below (Nat.le_refl _) (by simp; omega)))
    (fun c => OwnFrom.and (Own.from (fun s A B row hs hg hr => by
      obtain ⟨h1, x, h2, h3⟩ := hs
      exact ⟨h1, x, h2, boxed_own' _ _ (fun _ : Unit => Value.int .i64 (x.1 : Int)) () A B row h3 hg hr⟩) _) (ownFrom_below (Nat.le_refl _) (by simp; omega)))
    ⟨⟨⟨by simp, by simpa using (b0.alloc _).alloc _⟩, b1.alloc _⟩, hB0⟩
    (fun x => { tmps := #[.int .i64 (s : Int), .int .i64 (p : Int), undef, .pointer (some ⟨w.heap.size, 0, none⟩), .pointer (some ⟨w.heap.size + 1, 0, none⟩), .int .i64 (x.1 : Int), .int .i64 (s : Int), .func (.func 44) #[] #[.pointer (some ⟨w.heap.size + 1 + 1, 0, none⟩)], .int .i64 (x.1 : Int), undef, undef, undef, undef, undef], defers := [] }) ?assign ?body ?done ?stop
  case assign =>
    intro l x W K hK
    gi_wp2
    exact hK
  case body =>
    rintro l pre x W ⟨⟨⟨hle, hb0⟩, hb1⟩, hB⟩ hlt
    have hc0 := hb0.cell
    have hf0 := hb0.frozen
    have hc1 := hb1.cell
    have hf1 := hb1.frozen
    by_cases hz : pre.length = p
    · have hzB : ((p : Int) - (pre.length : Int) == 0) = true := by simp; omega
      have HZ := hide hz
      clear hz
      gi_wp2
      refine ⟨(KeepsOthers.setCell _ _ _).from _, ⟨rfl, x, ?_, hb1.set _⟩, hB.setCell (p := ⟨w.heap.size + 1, 0, none⟩) (by simp) _⟩
      rw [← HZ.out]; simp
    · have hzB : ((p : Int) - (pre.length : Int) == 0) = false := by simp; omega
      gi_wp2
      refine ⟨(KeepsOthers.setCell _ _ _).from _, keepB_set (by omega) _, ⟨⟨by simp; omega, ?_⟩, boxed_keep_set hb1 (by omega) _⟩, hB.setCell (p := ⟨w.heap.size, 0, none⟩) (by simp) _⟩
      have e : (p : Int) - ((pre ++ [x]).length : Int) = (p : Int) - (pre.length : Int) - 1 := by simp; omega
      rw [e]
      exact hb0.set _
  case done =>
    rintro D ys W hD hys ⟨⟨⟨hle, _⟩, _⟩, _⟩ hK
    have h := congrArg List.length hys
    rw [List.length_map] at h
    have h2 : sizeS s = (listed s).length := rfl
    omega
  case stop =>
    rintro D c pre W hD hpre ⟨⟨rfl, x, hx, hb1⟩, hB⟩ hK
    gi_wp2
    refine ⟨by simp, .inl ⟨_, _, rfl, run_takeDeferred hK, ?_⟩⟩
    have hc5 := (boxed_put hb1 (.deferred none) hK rfl).cell
    have hx2 : (listed s)[p]? = some x.1 := by
      obtain ⟨r, hr⟩ := hpre
      rw [← hr, List.getElem?_append_left, List.getElem?_map, hx]
      · rfl
      · rw [List.length_map]; exact (List.getElem?_eq_some_iff.1 hx).1
    refine ⟨.int .i64 (x.1 : Int), ?_, ret_int (by rw [List.getD_eq_getElem?_getD, hx2]; rfl), hB.trans (belowK_b (w := w) (Nat.le_refl _) W D _ _ (by simp at hD; omega) hK rfl rfl)⟩
    simp [results, Try.f61, go_sem, hc5]
end Go.Proofs.Ytpecfjejfkcolaa

/- chains.voters. -/
namespace Go.Proofs.Ytpecfjejfkcolaa
open Go.RowKit Go.Shelf
set_option linter.unusedVariables false

/-- a block's cells, and those of several -/
def blkCells (b : Blk) : List Value := [.int .i64 (b.1 : Int), .int .u8 (b.2.1 : Int), .int .i64 (b.2.2 : Int)]
def rowCells : List Blk → List Value
  | [] => []
  | b :: r => blkCells b ++ rowCells r
theorem rowCells_len : ∀ l, (rowCells l).length = l.length * 3
  | [] => rfl
  | b :: r => by simp [rowCells, blkCells, rowCells_len r]; omega
theorem rowCells_snoc : ∀ (l : List Blk) (b : Blk), rowCells (l ++ [b]) = rowCells l ++ blkCells b
  | [], b => by simp [rowCells]
  | a :: r, b => by simp [rowCells, rowCells_snoc r b]
theorem rowCells_at : ∀ (l : List Blk) (k i : Nat) (hk : k < l.length) (hi : i < 3), (rowCells l)[k * 3 + i]? = (blkCells l[k])[i]?
  | [], k, i, hk, _ => by simp at hk
  | b :: r, 0, i, hk, hi => by
    simp only [rowCells, Nat.zero_mul, Nat.zero_add, List.getElem_cons_zero]
    exact List.getElem?_append_left (by simpa [blkCells] using hi)
  | b :: r, k + 1, i, hk, hi => by
    have h := rowCells_at r k i (by simpa using hk) hi
    simp only [rowCells, List.getElem_cons_succ]
    rw [← h, List.getElem?_append_right (by simp [blkCells]; omega)]
    congr 1
    simp [blkCells]
    omega
theorem votesS_snoc (b : Blk) (sign node : Nat) : ∀ (r : List Blk) (acc : Nat), votesS (r ++ [b]) sign node acc =
    (if b.2.1 = sign ∧ b.2.2 = node then withS (votesS r sign node acc) b.1 else votesS r sign node acc)
  | [], _ => rfl
  | _ :: r, acc => votesS_snoc b sign node r _
theorem votesS_take {ep : List Blk} {k sign node : Nat} (hk : k < ep.length) : votesS (ep.take (k + 1)) sign node 0 =
    (if ep[k].2.1 = sign ∧ ep[k].2.2 = node then withS (votesS (ep.take k) sign node 0) ep[k].1 else votesS (ep.take k) sign node 0) := by
  rw [List.take_succ_eq_append_getElem hk, votesS_snoc]

/-- a slice of blocks of the call's own -/
def OwnBlks (w : World) (base : Nat) (v : Value) (l : List Blk) : Prop := w.ownsRow base 88 3 v l.length (rowCells l)
theorem OwnBlks.slice {w : World} {base : Nat} {v : Value} {l : List Blk} (h : OwnBlks w base v l) : ∃ ao cap, v = .slice ao l.length cap := by
  rcases h.2 with ⟨rfl, h0⟩ | ⟨g, cap, cur, rfl, _⟩
  · exact ⟨none, 0, by rw [h0]⟩
  · exact ⟨_, _, rfl⟩
theorem OwnBlks.at {w : World} {base n cap : Nat} {ao : Option Addr} {l : List Blk} (h : OwnBlks w base (.slice ao n cap) l) (hl : 0 < l.length) :
    ∃ g, ao = some ⟨g, 0, none⟩ ∧ g < w.heap.size ∧ ∀ k i, k < l.length → i < 3 → w.cell? ⟨g, k * 3 + i, none⟩ = (rowCells l)[k * 3 + i]? := by
  have h' := h
  rcases h.2 with ⟨_, h0⟩ | ⟨g, cap', cur, e, hg, hh, _⟩
  · omega
  · injection e with e1 e2 e3
    subst e1 e2
    exact ⟨g, rfl, lt_of_block hh, fun k i hk hi => World.ownsRow.cellAt h' _ (by omega)⟩

set_option maxRecDepth 100000 in
set_option maxHeartbeats 1000000 in
theorem voters_any (ep : List Blk) (base : Nat) (v : Value) (sign node : Nat) (w : World) (hv : OwnBlks w base v ep) (hb : ∀ b ∈ ep, b.1 < 7) (hlen : ep.length ≤ 6) (hg : sign < 256) (hn : node < 7) :
    Calls Try.prog 56 #[v, .int .u8 (sign : Int), .int .i64 (node : Int)] w fun e w' => e = .returned (.int .i64 (votesS ep sign node 0 : Nat)) ∧ Below w.heap.size w w' := by
  obtain ⟨ao, cap, rfl⟩ := hv.slice
  by_cases h0 : 0 < ep.length
  · obtain ⟨g, rfl, hgl, hcell⟩ := hv.at h0
    have HC := hide hcell
    have HB := hide hb
    clear hcell hb hv
    go_enter Try.func56, Try.ntmps56
    go_wp2
    go_loopw [7, 12] (fun x i wr => ∃ (k : Nat), k ≤ ep.length ∧ i = .int .i64 (k : Int) ∧ x = .int .i64 (votesS (ep.take k) sign node 0 : Nat) ∧ Below w.heap.size w wr) (fun _ i _ => ep.length - (intOf i).toNat)
    case atStart => exact ⟨0, by omega, rfl, rfl, Below.refl _ _⟩
    case round =>
      obtain ⟨k, hk, rfl, rfl, hB⟩ := hrel
      have hlt128 := votesS_lt (ep.take k) sign node (fun b hb' => HB.out b (List.mem_of_mem_take hb'))
      have hsz := hB.size
      by_cases hlt : k < ep.length
      · have hst := votesS_take (sign := sign) (node := node) hlt
        have hm7 := HB.out ep[k] (List.getElem_mem hlt)
        have cell : ∀ i, i < 3 → wr.cell? ⟨g, k * 3 + i, none⟩ = (blkCells ep[k])[i]? := fun i hi => by
          rw [hB.cell (p := ⟨g, k * 3 + i, none⟩) hgl, HC.out k i hlt hi, rowCells_at ep k i hlt hi]
        have c0 := cell 0 (by omega)
        have c1 := cell 1 (by omega)
        have c2 := cell 2 (by omega)
        obtain ⟨⟨m, sg, ab⟩, hbk⟩ : ∃ b, ep[k] = b := ⟨_, rfl⟩
        rw [hbk] at hst hm7 c0 c1 c2
        simp only [blkCells, List.getElem?_cons_zero, List.getElem?_cons_succ, Nat.add_zero] at c0 c1 c2 hst hm7
        clear cell hbk
        have HST := hide hst
        clear hst
        go_wp2_with (go_at_call 57; refine (with_any _ m hlt128 hm7 _).mono ?_; rintro e w' ⟨rfl, rfl⟩)
        · have h1 : (sg : Int) = (sign : Int) := by assumption
          have h2 : ((ab : Int) == (node : Int)) = true := by assumption
          have h3 : sg = sign ∧ ab = node := ⟨by omega, by have := eq_of_beq h2; omega⟩
          go_roundw
          case rel => exact ⟨k + 1, by omega, by go_num, by rw [HST.out, if_pos h3], hB.alloc hsz _⟩
          case measure => simp [intOf]; omega
        · have h2 : ((ab : Int) == (node : Int)) = false := by assumption
          have h3 : ¬ (sg = sign ∧ ab = node) := by rintro ⟨_, e⟩; rw [e] at h2; simp at h2
          go_roundw
          case rel => exact ⟨k + 1, by omega, by go_num, by rw [HST.out, if_neg h3], hB.alloc hsz _⟩
          case measure => simp [intOf]; omega
        · have h1 : ¬ (sg : Int) = (sign : Int) := by assumption
          have h3 : ¬ (sg = sign ∧ ab = node) := by rintro ⟨e, _⟩; exact h1 (by rw [e])
          go_roundw
          case rel => exact ⟨k + 1, by omega, by go_num, by rw [HST.out, if_neg h3], hB.alloc hsz _⟩
          case measure => simp [intOf]; omega
      · have HT : Hid (ep.take k = ep) := List.take_of_length_le (by omega)
        go_wp2
        go_ret
        exact ⟨ret_int (by rw [HT.out]), hB⟩
  · have he : ep = [] := List.length_eq_zero_iff.1 (by omega)
    subst he
    go_enter Try.func56, Try.ntmps56
    go_wp2
    refine wp_loop_rounds 1 ?_
    rw [rounds_succ]
    go_wp2
    go_ret
    exact ⟨rfl, Below.refl _ _⟩
theorem voters_is (sgn : Int) (a : Nat) (ep : List Blk) (base : Nat) (v : Value) (sign node : Nat) (w : World) (hsg : sgn = (sign : Int)) (hv : OwnBlks w base v ep) (hb : ∀ b ∈ ep, b.1 < 7) (hlen : ep.length ≤ 6) (hg : sign < 256) (hn : node < 7) (h : votesS ep sign node 0 = a) :
    Calls Try.prog 56 #[v, .int .u8 sgn, .int .i64 (node : Int)] w fun e w' => e = .returned (.int .i64 (a : Int)) ∧ Below w.heap.size w w' := by
  rw [← h, hsg]; exact voters_any ep base v sign node w hv hb hlen hg hn
theorem size_is (a s : Nat) (h : s < 128) (w : World) (ha : sizeS s = a) :
    Calls Try.prog 23 #[.int .i64 (s : Int)] w fun e w' => e = .returned (.int .i64 (a : Int)) ∧ w' = w := by
  rw [← ha]; exact size_any s h w
end Go.Proofs.Ytpecfjejfkcolaa
