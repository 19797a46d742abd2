/-
  Rows of slots: what a slice of slots shows; slot.CopyAll.
-/
import Derived.Test.YtnpaejknoipicafGreatStrClone
import Derived.Test.YtnpaejknoipicafGreatGrow
namespace Go.Proofs.YtnpaejknoipicafGreat
open Go.RowKit

theorem Tryz.infoSlot : (Tryz.prog.info? 91).map (fun i => (i.zero, i.size, i.bytes)) = some (some (.agg #[.int .i64 0, .int .i64 0, .int .i64 0, .bool false, .bool false, .bool false, .string ByteArray.empty]), 7, 48) := by kernel_rfl

/-- v shows these slots in world w -/
def Sls (w : World) (v : Value) (l : List Sk) : Prop := Sl w v l.length 7 (skCells l)

theorem Sls.below {w w' : World} {v : Value} {l : List Sk} (h : Sls w v l) (hb : Below w.heap.size w w') : Sls w' v l := Sl.below h hb
theorem Sls.len {w : World} {v : Value} {l : List Sk} (h : Sls w v l) : ∃ a c, v = .slice a l.length c := Sl.len h
theorem Sls.nil (w : World) : Sls w (.slice none 0 0) [] := ⟨rfl, .inl ⟨rfl, none, 0, rfl⟩⟩
theorem Sls.of_owns {w : World} {base : Nat} {v : Value} {l : List Sk} (h : w.ownsRow base 91 7 v l.length (skCells l)) : Sls w v l := Sl.of_owns h

/-- a slot's seven cells from an address on -/
def At7 (w : World) (b off : Nat) (x : Sk) : Prop :=
  w.cell? ⟨b, off, none⟩ = some (.int .i64 x.n) ∧ w.cell? ⟨b, off + 1, none⟩ = some (.int .i64 x.p.seq) ∧ w.cell? ⟨b, off + 2, none⟩ = some (.int .i64 x.p.time) ∧ w.cell? ⟨b, off + 3, none⟩ = some (.bool x.p.f) ∧
  w.cell? ⟨b, off + 4, none⟩ = some (.bool x.p.e) ∧ w.cell? ⟨b, off + 5, none⟩ = some (.bool x.p.k) ∧ w.cell? ⟨b, off + 6, none⟩ = some (.string x.p.t)

theorem Sls.parts {w : World} {v : Value} {l : List Sk} (h : Sls w v l) :
    ∃ ao c, v = .slice ao l.length c ∧ ∀ k, k < l.length → ∃ b off, ao = some ⟨b, off, none⟩ ∧ b < w.heap.size ∧ At7 w b (off + k * 7) (l[k]?.getD Sk.zero) := by
  obtain ⟨hl, ⟨h0, a, c, rfl⟩ | ⟨b, off, c, rfl, hb, hc⟩⟩ := h
  · exact ⟨a, c, by rw [h0], fun k hk => by omega⟩
  · refine ⟨_, c, rfl, fun k hk => ⟨b, off, rfl, hb, ?_⟩⟩
    have g : ∀ i u, i < 7 → ((l[k]?.getD Sk.zero).cells)[i]? = some u → w.cell? ⟨b, off + k * 7 + i, none⟩ = some u := fun i u hi hu => by
      rw [Nat.add_assoc]
      exact hc (k * 7 + i) u (by rw [skCells_at l k i hi hk]; exact hu)
    exact ⟨g 0 _ (by omega) rfl, g 1 _ (by omega) rfl, g 2 _ (by omega) rfl, g 3 _ (by omega) rfl, g 4 _ (by omega) rfl, g 5 _ (by omega) rfl, g 6 _ (by omega) rfl⟩

theorem At7.below {w w' : World} {b off B : Nat} {x : Sk} (h : At7 w b off x) (hb : Below B w w') (hB : b < B) : At7 w' b off x := by
  have g : ∀ j u, w.cell? ⟨b, j, none⟩ = some u → w'.cell? ⟨b, j, none⟩ = some u := fun j u hu => (hb.cell (p := ⟨b, j, none⟩) hB).trans hu
  obtain ⟨h0, h1, h2, h3, h4, h5, h6⟩ := h
  exact ⟨g _ _ h0, g _ _ h1, g _ _ h2, g _ _ h3, g _ _ h4, g _ _ h5, g _ _ h6⟩

/-- a row of the call's own, where its block is as it was -/
theorem owns_same {w w' : World} {base : Nat} {e : TypeId} {size : Nat} {v : Value} {n : Nat} {xs : List Value} (h : w.ownsRow base e size v n xs) (hs : ∀ g, v.ownBlock = some g → w'.heap[g]? = w.heap[g]?) : w'.ownsRow base e size v n xs := by
  obtain ⟨hl, h | ⟨g, cap, cur, rfl, hb, hh, h1, h2, h3, h4⟩⟩ := h
  · exact ⟨hl, .inl h⟩
  · exact ⟨hl, .inr ⟨g, cap, cur, rfl, hb, (hs g rfl).trans hh, h1, h2, h3, h4⟩⟩
theorem owns_below {w w' : World} {base B : Nat} {e : TypeId} {size : Nat} {v : Value} {n : Nat} {xs : List Value} (h : w.ownsRow base e size v n xs) (hb : Below B w w') (hB : w.heap.size ≤ B) : w'.ownsRow base e size v n xs :=
  owns_same h fun g hg => hb.block g (by have := (h.lt g hg).2; omega)

/-- one new slot, as append's law asks it -/
theorem newSlot {w : World} {x : Sk} {t : TypeId} {n : Nat} (hn : n = w.heap.size) : ∀ j u, x.cells.toList[j]? = some u → (w.alloc (.cells x.cells t)).cell? ((⟨n, 0, none⟩ : Addr).add j) = some u := by
  intro j u hj
  subst hn
  rw [Addr.add_lit, Nat.zero_add, World.cell?_alloc_new]
  simpa using hj
theorem oneSlot (x : Sk) : ∀ u ∈ x.cells.toList, u.oneCell' = true := by
  intro u hu
  simp [Sk.cells] at hu
  rcases hu with h | h | h | h | h | h | h <;> subst h <;> rfl

set_option maxHeartbeats 2000000 in
set_option maxRecDepth 1000000 in
theorem copyAll_any (v : Value) (l : List Sk) (w : World) (hv : Sls w v l) (hlen : l.length ≤ 1000) (hshort : ∀ x ∈ l, x.p.t.size ≤ 8) :
    Calls Tryz.prog 92 #[v] w fun e w' => ∃ u, e = .returned u ∧ w'.ownsRow w.heap.size 91 7 u l.length (skCells l) ∧ Below w.heap.size w w' := by
  obtain ⟨i0, hi, hz0, hz1, hz2⟩ := info_parts Tryz.infoSlot
  obtain ⟨ao, c, rfl, hc⟩ := hv.parts
  have HC : Hid (∀ k, k < l.length → ∃ b off, ao = some ⟨b, off, none⟩ ∧ b < w.heap.size ∧ At7 w b (off + k * 7) (l[k]?.getD Sk.zero)) := hc
  have HS : Hid (∀ k, k < l.length → (l[k]?.getD Sk.zero).p.t.size ≤ 8) := fun k hk => hshort _ (by rw [List.getElem?_eq_getElem hk]; exact List.getElem_mem hk)
  obtain ⟨n, hn⟩ : ∃ n, n = l.length := ⟨_, rfl⟩
  have HN : Hid (n = l.length) := hn
  rw [← hn] at hlen ⊢
  clear hc hv hn hshort
  go_enter Tryz.func92, Tryz.ntmps92
  go_wp2
  go_loopw [3, 8] (fun v i wr => ∃ k : Nat, k ≤ n ∧ i = .int .i64 k ∧ Hid (wr.ownsRow w.heap.size 91 7 v k (skCells (l.take k))) ∧ Below w.heap.size w wr)
    (fun _ i _ => n - (intOf i).toNat)
  case atStart => exact ⟨0, Nat.zero_le _, rfl, (show World.ownsRow _ _ _ _ _ _ _ from World.ownsRow_nil _ _ _ _), Below.refl _ _⟩
  case round =>
    obtain ⟨k, hk, rfl, HO, hbel⟩ := hrel
    by_cases hlt : k < n
    · obtain ⟨b, off, rfl, hb, hat⟩ := HC.out k (by rw [← HN.out]; exact hlt)
      have hsh := HS.out k (by rw [← HN.out]; exact hlt)
      obtain ⟨c0, c1, c2, c3, c4, c5, c6⟩ := hat.below hbel hb
      obtain ⟨x, hx⟩ : ∃ x, x = l[k]?.getD Sk.zero := ⟨_, rfl⟩
      rw [← hx] at c0 c1 c2 c3 c4 c5 c6 hsh
      have HX : Hid (x = l[k]?.getD Sk.zero) := hx
      have hcp : ∀ w : World, Calls Tryz.prog 94 #[x.val] w fun e w' => e = .returned x.val ∧ Below w.heap.size w w' := fun w => slotCopy_any x w hsh
      clear hx hat
      obtain ⟨xn, seq, time, xf, xe, xk, xt⟩ := x
      simp only [Sk.val] at hcp c0 c1 c2 c3 c4 c5 c6
      have HB : Hid (Below w.heap.size w wr) := hbel
      clear hbel
      go_wp2_with (first
        | (go_at_call 94; refine (hcp _).mono ?_; rintro e w1 ⟨rfl, hbw⟩)
        | (at_builtin; refine wpList_append_own _ rfl _ _ 55 rfl w.heap.size 91 i0 _ 7 48 Tryz.underlying55 hi hz0 hz1 hz2 rfl (by decide) _ k (skCells (l.take k)) rfl ?c0 ⟨w1.heap.size, 0, none⟩ 1 1 (Sk.cells ⟨xn, seq, time, xf, xe, xk, xt⟩).toList rfl rfl ?c1 ?c2 ?c3 ?c4 ?c5 ?_))
      case c0 => exact (owns_below (HO.out.alloc _) hbw (Nat.le_refl _)).alloc _
      case c1 => exact newSlot rfl
      case c2 => exact oneSlot _
      case c3 => unfold maxLen; omega
      case c4 => omega
      case c5 => have h1 := HB.out.size; have h2 := hbw.size; simp at h2 ⊢; omega
      · intro v' w2 hown' hgrow _
        have h1 := HB.out.size
        have h2 := hbw.size
        have hb1 : Below w.heap.size w w1 := HB.out.trans (((Below.refl _ _).alloc h1 _).trans (hbw.mono (by simp; omega)))
        have R1 : Hid (Below w.heap.size w w2) := (hb1.alloc (by have := hb1.size; omega) _).grown hgrow (by have := hb1.size; simp; omega) (fun j hj => (HO.out.lt j hj).1)
        have R2 : Hid (w2.ownsRow w.heap.size 91 7 v' (k + 1) (skCells (l.take (k + 1)))) := by
          show w2.ownsRow w.heap.size 91 7 v' (k + 1) (skCells (l.take (k + 1)))
          rw [take_one (by rw [← HN.out]; exact hlt) Sk.zero, skCells_append, ← HX.out, skCells_one]
          exact hown'
        clear hown' hgrow c0 c1 c2 c3 c4 c5 c6 hbw hb1 h1 h2 HO HX
        go_wp2
        go_roundw
        case rel => exact ⟨k + 1, by omega, by go_num, R2, R1.out⟩
        case measure => simp [intOf]; omega
    · have hkl : k = n := by omega
      subst hkl
      go_wp2
      go_ret
      have ho := HO.out
      rw [HN.out, List.take_length, ← HN.out] at ho
      exact ⟨_, rfl, ho, hbel⟩

end Go.Proofs.YtnpaejknoipicafGreat
