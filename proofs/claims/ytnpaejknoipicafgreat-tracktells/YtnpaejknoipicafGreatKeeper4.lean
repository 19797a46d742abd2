/-
  Contracts: the keeper's giveUpTo, keep.
-/
import Derived.Test.YtnpaejknoipicafGreatKeeper3
namespace Go.Proofs.YtnpaejknoipicafGreat
open Go.RowKit

theorem letF_facts : ∀ (h : List Sk) (next : Int) (o : List Sk), Nums h → (0 ≤ next ∧ next ≤ 1000000001) →
    Nums (letF next h o).2.1 ∧ (0 ≤ (letF next h o).1 ∧ (letF next h o).1 ≤ 1000000001) ∧ (letF next h o).2.1.length + (letF next h o).2.2.length = h.length + o.length
  | [], next, o, hn, hb => ⟨hn, hb, rfl⟩
  | x :: r, next, o, hn, hb => by
    unfold letF
    split
    · have hx := hn x (by simp)
      have := letF_facts r (next + 1) (o ++ [x]) (fun y hy => hn y (by simp [hy])) (by omega)
      refine ⟨this.1, this.2.1, ?_⟩
      rw [this.2.2]; simp; omega
    · exact ⟨hn, hb, rfl⟩

set_option maxHeartbeats 2000000 in
set_option maxRecDepth 100000 in
theorem giveUpTo_any (base K most : Nat) (next : Int) (h o : List Sk) (w : World) (hk : Keep base K w next h o) (hbK : base ≤ K) (hnums : Nums h) (hn0 : 0 ≤ next ∧ next ≤ 1000000001) (hlen : h.length + o.length ≤ 100) :
    Calls Tryz.prog 161 #[.pointer (some ⟨K, 0, none⟩), .int .i64 most] w fun e w' =>
      e = .returned (.tuple #[]) ∧ Keep base K w' (giveF most h.length next h o).1 (giveF most h.length next h o).2.1 (giveF most h.length next h o).2.2 ∧ Below base w w' := by
  obtain ⟨R, hR⟩ : ∃ R, R = giveF most h.length next h o := ⟨_, rfl⟩
  rw [← hR]
  go_enter Tryz.func161, Tryz.ntmps161
  go_wp2
  go_loopg [] h.length (fun gg wr => ∃ next' h' o', Hid (Keep base K wr next' h' o') ∧ Hid (giveF most gg next' h' o' = R) ∧ Nums h' ∧ (0 ≤ next' ∧ next' ≤ 1000000001) ∧ h'.length + o'.length ≤ 100 ∧ Hid (Below base w wr) ∧ h'.length ≤ gg)
  case atStart => exact ⟨next, h, o, hk, hR.symm, hnums, hn0, hlen, Below.refl _ _, Nat.le_refl _⟩
  case round =>
    obtain ⟨next', h', o', HK, HL, hnu, hne, hle, HB, hgg⟩ := hrel
    obtain ⟨a, c, ov, kK, kS, kc, kB, kO, kA⟩ := HK.out
    obtain ⟨d0, d1, d2⟩ := kK.three
    have hKw := kK.lt
    by_cases hm : h'.length ≤ most
    · have hmi : ((h'.length : Nat) : Int) ≤ (most : Int) := by omega
      have hG : Hid (giveF most gk next' h' o' = (next', h', o')) := by
        show giveF most gk next' h' o' = (next', h', o')
        cases gk with
        | zero => rfl
        | succ f =>
          cases h' with
          | nil => rfl
          | cons x r => simp only [List.length_cons] at hm; simp only [giveF, if_pos hm]
      obtain ⟨n, hn⟩ : ∃ n, n = h'.length := ⟨_, rfl⟩
      rw [← hn] at d1 hmi
      clear kK kS kc kB kO kA hk hR hn
      go_wp2
      go_end0
      rw [← HL.out, hG.out]
      exact ⟨rfl, HK.out, HB.out⟩
    · cases h' with
      | nil => simp at hm
      | cons x r =>
        obtain ⟨g, off, rfl, hgl, hat⟩ := kS.cons
        have c0 := hat.1
        obtain ⟨hbg, curg, kg⟩ := kB g rfl
        have hx := hnu x (by simp)
        have hKg : K ≠ g := Apart_type kK kg (by decide)
        obtain ⟨m, hmm⟩ : ∃ m, m = (x :: r).length := ⟨_, rfl⟩
        have hmo : ¬ ((m : Int) ≤ (most : Int)) := by rw [hmm]; omega
        have hm0 : (0 : Int) < (m : Int) := by rw [hmm]; simp
        have fz := kK.free 0
        have k1 : Hid (Keep base K (wr.setCell ⟨K, 0, none⟩ (.int .i64 x.n)) x.n (x :: r) o') := by
          have hblk : ∀ j, j ≠ K → (wr.setCell ⟨K, 0, none⟩ (.int .i64 x.n)).heap[j]? = wr.heap[j]? := fun j hj => Below.heap_setCell _ _ _ _ (by exact hj)
          refine ⟨some ⟨g, off, none⟩, c, ov, kK.set 0 _, ?_, kc, fun g' hg' => ?_, owns_same kO fun j hj => hblk j (fun e => ?_), kA⟩
          · obtain ⟨hl, ⟨h0, _⟩ | ⟨b, of2, c3, hv, hb, hc⟩⟩ := kS
            · simp at h0
            · cases hv
              exact ⟨hl, .inr ⟨g, off, c, rfl, by simp; exact hb, fun j u hj => (World.cell?_of_block (hblk g (Ne.symm hKg))).trans (hc j u hj)⟩⟩
          · simp only [Value.ownBlock, Option.some.injEq] at hg'; subst hg'
            exact ⟨hbg, curg, (hblk g (Ne.symm hKg)).trans kg⟩
          · obtain ⟨_, cu, h3⟩ := owns_blk kO hj
            exact Apart_type kK h3 (by decide) e.symm
        have hcall := letOut_any base K x.n (x :: r) o' _ k1.out hbK hnu (by omega) hle
        have hfacts := letF_facts (x :: r) x.n o' hnu (by omega)
        have hsh : (letF x.n (x :: r) o').2.1.length ≤ r.length := by rw [letF_first]; exact letF_len _ _ _
        obtain ⟨Q, hQ⟩ : ∃ Q, Q = letF x.n (x :: r) o' := ⟨_, rfl⟩
        have HG : Hid (∀ f, gk = f + 1 → giveF most f Q.1 Q.2.1 Q.2.2 = R) := fun f hf => by
          rw [← HL.out, hf, hQ]
          simp only [List.length_cons] at hm
          simp only [giveF, if_neg hm]
        rw [← hQ] at hcall hfacts hsh
        rw [← hmm] at d1
        have HF : Hid _ := hfacts
        have HQ : Hid (Below base w (wr.setCell ⟨K, 0, none⟩ (.int .i64 x.n))) := HB.out.setCell (by exact hbK) _
        clear kK kS kc kB kO kA hk hR hmm k1 kg hat hfacts hQ HL HB HK
        go_wp2_with (go_at_call 172; refine hcall.mono ?_; rintro e w1 ⟨rfl, hk1, hb1⟩)
        have HK1 : Hid _ := hk1
        clear hk1
        go_roundg (gk - 1)
        case measure => simp at hgg; omega
        case rel =>
          obtain ⟨f1, f2, f3⟩ := HF.out
          exact ⟨_, _, _, HK1, HG.out (gk - 1) (by simp at hgg; omega), f1, f2, by omega, HQ.out.trans hb1, by simp at hgg; omega⟩

set_option maxHeartbeats 1000000 in
theorem keep_any (next : Int) (v : Value) (l : List Sk) (w : World) (hv : Sls w v l) (hlen : l.length ≤ 1000) (hshort : ∀ x ∈ l, x.p.t.size ≤ 8) :
    Calls Tryz.prog 159 #[.agg #[.int .i64 next, v]] w fun e w' => ∃ u, e = .returned (.agg #[.int .i64 next, u, .slice none 0 0]) ∧ w'.ownsRow w.heap.size 91 7 u l.length (skCells l) ∧ Below w.heap.size w w' := by
  obtain ⟨a, c, rfl⟩ := hv.len
  have hcp := copyAll_any (.slice a l.length c) l ((w.alloc (.cells #[.int .i64 next, .slice a l.length c] 57)).alloc (.cells #[.int .i64 0, .slice none 0 0, .slice none 0 0] 219)) ((hv.alloc _).alloc _) hlen hshort
  obtain ⟨n, hn⟩ : ∃ n, n = l.length := ⟨_, rfl⟩
  rw [← hn] at hcp ⊢
  clear hv hn
  go_enter Tryz.func159, Tryz.ntmps159
  go_wp2_with fail
  refine hcp.mono ?_
  rintro e w1 ⟨u, rfl, ho, hb⟩
  have k0 := ((Blk.new w #[.int .i64 next, .slice a n c] 57).alloc (.cells #[.int .i64 0, .slice none 0 0, .slice none 0 0] 219)).below hb (by simp; omega)
  have k1 := (Blk.new (w.alloc (.cells #[.int .i64 next, .slice a n c] 57)) #[.int .i64 0, .slice none 0 0, .slice none 0 0] 219).below hb (by simp)
  simp only [World.size_alloc] at k1
  have f0 := k0.free
  have f1 := k1.free
  obtain ⟨c0, c1⟩ := k0.two
  obtain ⟨d0, d1, d2⟩ := k1.three
  obtain ⟨a', c', hu⟩ := Sl.len (Sl.of_owns ho)
  have hbe : Below w.heap.size w w1 := (((Below.refl _ w).alloc (Nat.le_refl _) _).alloc (by simp) _).trans (hb.mono (by simp; omega))
  have HF : Hid (∀ w2 : World, Hid (∀ j, j ≠ w.heap.size → j ≠ w.heap.size + 1 → w2.heap[j]? = w1.heap[j]?) → w2.ownsRow w.heap.size 91 7 u n (skCells l)) := fun w2 h2 =>
    owns_same (owns_base ho (by simp; omega)) fun j hj => by
      have := (ho.lt j hj).1
      simp only [World.size_alloc] at this
      exact h2.out j (by omega) (by omega)
  have HB : Hid (Below w.heap.size w w1) := hbe
  clear hb k0 k1 ho hbe hcp
  subst hu
  go_wp2
  exact bodyPost_ret (v := .agg #[.int .i64 next, .slice a' n c', .slice none 0 0]) (by simp [results, Tryz.results159, go_sem, d0, d1, d2]) rfl ⟨.slice a' n c', rfl, HF.out _ (show ∀ j, _ from fun j h1 h2 => by
    rw [Below.heap_setCell _ _ _ _ (by exact h2), Below.heap_setCell _ _ _ _ (by exact h2), Below.heap_setCell _ _ _ _ (by exact h2), Below.heap_setCell _ _ _ _ (by exact h1)]), by
    have h := HB.out
    exact (((h.setCell (by simp) _).setCell (by simp) _).setCell (by simp) _).setCell (by simp) _⟩

theorem Keep.of_owns {base K : Nat} {w : World} {next : Int} {hv : Value} {h : List Sk} (hK : Blk w K #[.int .i64 next, hv, .slice none 0 0] 219) (hown : w.ownsRow base 91 7 hv h.length (skCells h)) : Keep base K w next h [] := by
  have hsl := Sls.of_owns hown
  obtain ⟨a, c, hv'⟩ := hsl.len
  subst hv'
  refine ⟨a, c, .slice none 0 0, hK, hsl, ?_, fun g hg => owns_blk hown hg, World.ownsRow_nil _ _ _ _, Apart.nil _⟩
  obtain ⟨_, ⟨h1, h2⟩ | ⟨g, cap, cur, h1, _, _, h2, _⟩⟩ := hown
  · omega
  · injection h1 with _ _ h3; omega

end Go.Proofs.YtnpaejknoipicafGreat
