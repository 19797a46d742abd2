/-
  Plain facts on disks: what is written is read; beginnings of a disk; one record more.
-/
import Derived.Test.YtnpaejknoipicadDiskPlain
namespace Go.Proofs.Ytnpaejknoipicad

theorem at8_cons (b : UInt8) (r : List UInt8) : at8 (b :: r) 0 = b.toNat := rfl
theorem byteU_small {n : Nat} (h : n ≤ 255) : (byteU n 0).toNat = n := by
  have := b0 (n : Int)
  omega
theorem tkT_enc {s : ByteArray} (r : List UInt8) (h : s.size ≤ 255) : tkT (encT s ++ r) = some (s, r) := by
  unfold tkT encT
  have hs : s.size = s.data.toList.length := (Array.length_toList).symm
  rw [List.cons_append, at8_cons, byteU_small h, if_pos (by rw [hs]; simp only [List.length_cons, List.length_append]; omega)]
  rw [List.drop_one, List.tail_cons, hs, List.take_left, ba_of, show 1 + s.data.toList.length = s.data.toList.length + 1 by omega, List.drop_succ_cons, List.drop_left]
theorem tkTs_enc {ps : List ByteArray} (r : List UInt8) (h : ∀ s ∈ ps, s.size ≤ 255) : ∀ k, k ≤ ps.length → tkTs k (encTs ps ++ r) = some (ps.take k, encTs (ps.drop k) ++ r)
  | 0, _ => rfl
  | k + 1, hk => by
    have hd : ps.drop k = ps[k] :: ps.drop (k + 1) := List.drop_eq_getElem_cons (by omega)
    simp only [tkTs, tkTs_enc r h k (by omega), Option.bind_some]
    rw [hd]
    unfold encTs
    rw [List.flatMap_cons, List.append_assoc, tkT_enc _ (h _ (List.getElem_mem _))]
    simp only [Option.map_some]
    rw [List.take_add_one, List.getElem?_eq_getElem (by omega)]; rfl
theorem tkF_enc {f : Fr} (r : List UInt8) (h : f.chk = 0) : tkF f.key (encF f ++ r) = some (f, r) := by
  obtain ⟨h0, h1, h2, h3, h4⟩ := chkF_zero h
  unfold tkF encF
  have hp : at8 (be f.time 4 ++ (be f.parts.length 1 ++ encTs f.parts) ++ r) 4 = f.parts.length := by
    rw [be4, be1]; exact byteU_small (by omega)
  have hl : (be f.time 4 ++ (be f.parts.length 1 ++ encTs f.parts) ++ r).drop 5 = encTs f.parts ++ r := by rw [be4, be1]; rfl
  have ht : num ((be f.time 4 ++ (be f.parts.length 1 ++ encTs f.parts) ++ r).take 4) = f.time := by
    rw [be4]; exact num_be4 _ h0 (by omega)
  rw [if_pos (by rw [be4, be1]; simp), hp, hl, ht, tkTs_enc r (fun s hs => by have := h4 s hs; omega) _ (Nat.le_refl _)]
  simp [encTs]
theorem gkey {g : List Fr} (h : gchk g = 0) {k : Nat} (hk : k < g.length) : g[k].key = (k == 0) ∧ g[k].chk = 0 := by
  obtain ⟨_, _, h3⟩ := gchk_zero.1 h
  obtain ⟨h4, h5⟩ := h3 k hk
  have e : frAt g k = g[k] := by simp [frAt, List.getElem?_eq_getElem hk]
  unfold inPl at h5
  rw [e] at h4 h5
  refine ⟨?_, h4⟩
  by_cases h0 : k = 0
  · subst h0; simpa using h5
  · rw [if_neg h0] at h5
    simp only [Bool.and_eq_true, Bool.not_eq_true'] at h5
    rw [h5.1]; simp [h0]
theorem tkFs_enc {g : List Fr} (r : List UInt8) (h : gchk g = 0) : ∀ k, k ≤ g.length → tkFs k (encFs g ++ r) = some (g.take k, encFs (g.drop k) ++ r)
  | 0, _ => rfl
  | k + 1, hk => by
    have hd : g.drop k = g[k] :: g.drop (k + 1) := List.drop_eq_getElem_cons (by omega)
    obtain ⟨hk1, hk2⟩ := gkey h (show k < g.length by omega)
    simp only [tkFs, tkFs_enc r h k (by omega), Option.bind_some]
    rw [hd]
    unfold encFs
    rw [List.flatMap_cons, List.append_assoc, ← hk1, tkF_enc _ hk2]
    simp only [Option.map_some]
    rw [List.take_add_one, List.getElem?_eq_getElem (by omega)]; rfl
theorem recE_zero {n : Int} {g : List Fr} : recE n g = 0 ↔ 0 ≤ n ∧ n ≤ 100000 ∧ gchk g = 0 := by
  unfold recE
  by_cases h : n < 0 ∨ 100000 < n
  · rw [if_pos h]; omega
  · rw [if_neg h]; omega
theorem tkG_enc {n : Int} {g : List Fr} (h : recE n g = 0) : tkG (encG n g) = some (n, g, []) := by
  obtain ⟨h0, h1, h2⟩ := recE_zero.1 h
  obtain ⟨h3, h4, _⟩ := gchk_zero.1 h2
  unfold tkG encG
  have hp : at8 (be n 4 ++ (be g.length 1 ++ encFs g)) 4 = g.length := by
    rw [be4, be1]; exact byteU_small (by omega)
  have hl : (be n 4 ++ (be g.length 1 ++ encFs g)).drop 5 = encFs g ++ [] := by rw [be4, be1, List.append_nil]; rfl
  have ht : num ((be n 4 ++ (be g.length 1 ++ encFs g)).take 4) = n := by
    rw [be4]; exact num_be4 _ h0 (by omega)
  rw [if_pos (by rw [be4, be1]; simp), hp, hl, ht, tkFs_enc [] h2 _ (Nat.le_refl _)]
  simp [encFs]
theorem decR_enc {n : Int} {g : List Fr} (h : recE n g = 0) : decR (encG n g) = some (n, g) := by
  unfold decR
  rw [tkG_enc h]
  simp [h]
theorem encT_len (s : ByteArray) : (encT s).length = 1 + s.size := by
  have hs : s.size = s.data.toList.length := (Array.length_toList).symm
  rw [hs, encT, List.length_cons]; omega
theorem flat_len {α : Type} (f : α → List UInt8) (b : Nat) : ∀ l : List α, (∀ x ∈ l, (f x).length ≤ b) → (l.flatMap f).length ≤ l.length * b
  | [], _ => by simp
  | x :: r, h => by
    have h1 := h x List.mem_cons_self
    have h2 := flat_len f b r (fun y hy => h y (List.mem_cons_of_mem _ hy))
    rw [List.flatMap_cons, List.length_append, List.length_cons, Nat.add_mul]; omega
theorem encF_len {f : Fr} (h : f.chk = 0) : (encF f).length ≤ 41 ∧ (encTs f.parts).length ≤ 36 := by
  obtain ⟨_, _, _, h3, h4⟩ := chkF_zero h
  have h5 : (encTs f.parts).length ≤ f.parts.length * 9 := flat_len encT 9 f.parts (fun s hs => by rw [encT_len]; have := h4 s hs; omega)
  unfold encF
  rw [be4, be1]
  simp only [List.length_append, List.length_cons, List.length_nil]
  omega
theorem encFs_len {g : List Fr} (h : gchk g = 0) : ∀ k, k ≤ g.length → (encFs (g.take k)).length ≤ k * 41 := fun k hk => by
  have h1 := flat_len encF 41 (g.take k) (fun f hf => by
    obtain ⟨i, hi, e⟩ := List.mem_iff_getElem.1 (List.mem_of_mem_take hf)
    rw [← e]; exact (encF_len (gkey h hi).2).1)
  rw [List.length_take, Nat.min_eq_left hk] at h1
  exact h1
theorem encG_len {n : Int} {g : List Fr} (h : recE n g = 0) : 5 ≤ (encG n g).length ∧ (encG n g).length ≤ 251 := by
  obtain ⟨_, _, h2⟩ := recE_zero.1 h
  obtain ⟨_, h4, _⟩ := gchk_zero.1 h2
  have := encFs_len h2 g.length (Nat.le_refl _)
  rw [List.take_length] at this
  unfold encG
  rw [be4, be1]
  simp only [List.length_append, List.length_cons, List.length_nil]
  omega
theorem recB_len (n : Int) (g : List Fr) : (recB n g).length = 2 + (encG n g).length := by
  unfold recB; rw [be2]; simp; omega
theorem recB_num {n : Int} {g : List Fr} (h : recE n g = 0) (r : List UInt8) : num ((recB n g ++ r).take 2) = (encG n g).length := by
  have := encG_len h
  unfold recB; rw [be2]
  exact num_be2 _ (by omega) (by omega)
theorem tkR_rec {n : Int} {g : List Fr} (h : recE n g = 0) (r : List UInt8) : tkR (recB n g ++ r) = some (encG n g, r) := by
  rw [tkR_of (recB_num h r) (by rw [List.length_append, recB_len]; omega)]
  have h1 : (recB n g ++ r).drop 2 = encG n g ++ r := by unfold recB; rw [be2]; rfl
  have h2 : (recB n g ++ r).drop (2 + (encG n g).length) = r := by rw [← recB_len, List.drop_left]
  rw [h1, h2, List.take_left]
theorem tkR_mono {l a r : List UInt8} (m : List UInt8) (h : tkR l = some (a, r)) : tkR (l ++ m) = some (a, r ++ m) := by
  obtain ⟨h1, h2, h3, h4⟩ := tkR_some h
  have e : (l ++ m).take 2 = l.take 2 := List.take_append_of_le_length (by omega)
  rw [tkR_of (n := a.length) (by rw [e]; exact h4) (by rw [List.length_append]; omega)]
  rw [List.drop_append_of_le_length (by omega), List.drop_append_of_le_length (by omega), ← h2, List.take_append_of_le_length (by rw [List.length_drop]; omega), ← h3]
theorem recsF_fuel : ∀ (f : Nat) (l : List UInt8), l.length ≤ f → recsF f l = recs l := by
  intro f
  induction f using Nat.strongRecOn with
  | ind f ih =>
    intro l hl
    unfold recs
    by_cases hz : f = l.length
    · rw [hz]
    · obtain ⟨f', rfl⟩ : ∃ f', f = f' + 1 := ⟨f - 1, by omega⟩
      cases hn : l.length with
      | zero =>
        have : l = [] := List.eq_nil_of_length_eq_zero hn
        subst this; rfl
      | succ n =>
        cases hr : tkR l with
        | none => simp [recsF, hr]
        | some p =>
          obtain ⟨a, r⟩ := p
          obtain ⟨h1, h2, _, _⟩ := tkR_some hr
          have hrl : r.length = l.length - (2 + a.length) := by rw [h2, List.length_drop]
          simp only [recsF, hr]
          rw [ih f' (by omega) r (by omega), ih n (by omega) r (by omega)]
theorem recs_cons {l a r : List UInt8} (h : tkR l = some (a, r)) : recs l = a :: recs r := by
  obtain ⟨h1, h2, _, _⟩ := tkR_some h
  have hrl : r.length = l.length - (2 + a.length) := by rw [h2, List.length_drop]
  obtain ⟨n, hn⟩ : ∃ n, l.length = n + 1 := ⟨l.length - 1, by omega⟩
  rw [recs, hn]
  simp only [recsF, h]
  rw [recsF_fuel n r (by omega)]
theorem recs_nil {l : List UInt8} (h : tkR l = none) : recs l = [] := by
  unfold recs
  cases l.length with
  | zero => rfl
  | succ n => simp [recsF, h]
/-- one disk behind another that is not torn -/
theorem recs_append (m : List UInt8) : ∀ (n : Nat) (l : List UInt8), l.length ≤ n → dEnd l = l.length → recs (l ++ m) = recs l ++ recs m
  | n, l, hl, he => by
    cases hr : tkR l with
    | none =>
      have h0 := recs_nil hr
      unfold dEnd at he
      rw [h0] at he
      have : l = [] := List.eq_nil_of_length_eq_zero (by rw [← he]; rfl)
      subst this
      rw [h0]; rfl
    | some p =>
      obtain ⟨a, r⟩ := p
      obtain ⟨h1, h2, _, _⟩ := tkR_some hr
      have hrl : r.length = l.length - (2 + a.length) := by rw [h2, List.length_drop]
      have hc := recs_cons hr
      unfold dEnd at he
      rw [hc, List.length_cons, endK_cons] at he
      cases n with
      | zero => omega
      | succ n =>
        rw [recs_cons (tkR_mono m hr), hc, recs_append m n r (by omega) (by unfold dEnd; omega)]; rfl
/-- a beginning of a disk -/
theorem recs_take : ∀ (f : Nat) (l : List UInt8) (n : Nat), l.length ≤ f → n ≤ l.length → ∃ k, k ≤ (recs l).length ∧ recs (l.take n) = (recs l).take k ∧ endK (recs l) k ≤ n ∧ (k < (recs l).length → n < endK (recs l) (k + 1))
  | f, l, n, hl, hn => by
    cases hr : tkR l with
    | none =>
      have h0 := recs_nil hr
      have h1 : tkR (l.take n) = none := by
        cases ht : tkR (l.take n) with
        | none => rfl
        | some p =>
          obtain ⟨a, r⟩ := p
          have := tkR_mono (l.drop n) ht
          rw [List.take_append_drop, hr] at this; cases this
      exact ⟨0, Nat.zero_le _, by rw [recs_nil h1]; rfl, by rw [endK_zero]; omega, fun h => by rw [h0] at h; simp at h⟩
    | some p =>
      obtain ⟨a, r⟩ := p
      obtain ⟨h1, h2, h3, h4⟩ := tkR_some hr
      have hrl : r.length = l.length - (2 + a.length) := by rw [h2, List.length_drop]
      have hc := recs_cons hr
      by_cases hlt : n < 2 + a.length
      · have h5 : tkR (l.take n) = none := by
          rw [tkR_none, List.length_take, Nat.min_eq_left hn]
          by_cases h6 : n < 2
          · exact .inl h6
          · right
            rw [List.take_take, Nat.min_eq_left (by omega), h4]; omega
        exact ⟨0, Nat.zero_le _, by rw [recs_nil h5]; rfl, by rw [endK_zero]; omega, fun _ => by rw [hc, endK_cons, endK_zero]; omega⟩
      · cases f with
        | zero => omega
        | succ f =>
          obtain ⟨k, i1, i2, i3, i4⟩ := recs_take f r (n - (2 + a.length)) (by omega) (by omega)
          have h5 : tkR (l.take n) = some (a, r.take (n - (2 + a.length))) := by
            have e : (l.take n).take 2 = l.take 2 := by rw [List.take_take, Nat.min_eq_left (by omega)]
            rw [tkR_of (n := a.length) (by rw [e]; exact h4) (by rw [List.length_take]; omega), List.drop_take, List.drop_take, ← h2, List.take_take, Nat.min_eq_left (by omega), ← h3]
          refine ⟨k + 1, by rw [hc, List.length_cons]; omega, by rw [recs_cons h5, hc, i2]; rfl, by rw [hc, endK_cons]; omega, fun h => ?_⟩
          rw [hc, List.length_cons] at h
          have := i4 (by omega)
          rw [hc, endK_cons]; omega

end Go.Proofs.Ytnpaejknoipicad
