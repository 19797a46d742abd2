/-
  A row of texts does not lie in a box that holds no text.
-/
import Derived.Test.YtnpaejknoipicaeMgCursorTells1
import Derived.Test.YtnpaejknoipicaeNest
import Derived.Test.YtnpaejknoipicaeBlocks
import Derived.Test.YtnpaejknoipicaeRegChain

namespace Go.Proofs.Ytnpaejknoipicae

section
variable {first : Int} {L : List (List Fr)} {O : List Fr} {m g f upto : Int}

theorem nx_some (h : nxE first L O m g f upto = 0) {k j : Nat} {t : Bool} (hn : nxt m (allG L O) (g - first) f upto = some (k, j, t)) :
    nxM first L O m g f upto = m ∧ nxG first L O m g f upto = first + k ∧ nxF first L O m g f upto = j + 1 ∧ nxX first L O m g f upto = frAt (grAt (allG L O) k) j ∧ nxK first L O m g f upto = true ∧ nxT first L O m g f upto = t ∧ k < (allG L O).length ∧ j < (grAt (allG L O) k).length := by
  obtain ⟨h1, h2, h3, h4⟩ := nxE_zero.1 h
  obtain ⟨s0, s1, s2⟩ := next_spec upto h1 h2
  cases hk : okB first L O m (plG first L O m g f) (plF first L O g f) upto
  · rw [s2 hk] at hn; cases hn
  · obtain ⟨k', j', e1, e2, e3, e4, e5⟩ := s1 hk
    rw [e5] at hn
    injection hn with hn
    injection hn with a b
    injection b with b c
    subst a b
    have hK : nxK first L O m g f upto = true := by unfold nxK; rw [decide_eq_true h, hk]; rfl
    obtain ⟨g1, g2⟩ := getE_in h1 e1 e2
    refine ⟨if_pos h, by unfold nxG; rw [if_pos h, hK, if_pos rfl, e1], by unfold nxF; rw [if_pos h, hK, if_pos rfl, e3], ?_, hK, by unfold nxT; rw [hK, ← c]; rfl, e2, e4⟩
    unfold nxX; rw [hK, if_pos rfl, g2, e3]; rfl
theorem nx_bad (h : ¬ nxE first L O m g f upto = 0) : nxM first L O m g f upto = 0 ∧ nxG first L O m g f upto = 0 ∧ nxF first L O m g f upto = 0 ∧ nxX first L O m g f upto = Fr.zero ∧ nxK first L O m g f upto = false ∧ nxT first L O m g f upto = false := by
  have hK : nxK first L O m g f upto = false := by unfold nxK; rw [decide_eq_false h]; rfl
  refine ⟨if_neg h, if_neg h, if_neg h, by unfold nxX; rw [hK]; rfl, hK, by unfold nxT; rw [hK]; rfl⟩
theorem nx_none (h : nxE first L O m g f upto = 0) (hn : nxt m (allG L O) (g - first) f upto = none) : nxM first L O m g f upto = m ∧ nxG first L O m g f upto = g ∧ nxF first L O m g f upto = f ∧ nxX first L O m g f upto = Fr.zero ∧ nxK first L O m g f upto = false ∧ nxT first L O m g f upto = false := by
  obtain ⟨h1, h2, h3, h4⟩ := nxE_zero.1 h
  obtain ⟨s0, s1, s2⟩ := next_spec upto h1 h2
  have hk : okB first L O m (plG first L O m g f) (plF first L O g f) upto = false := by
    cases hk : okB first L O m (plG first L O m g f) (plF first L O g f) upto
    · rfl
    · obtain ⟨k', j', e1, e2, e3, e4, e5⟩ := s1 hk
      rw [e5] at hn; cases hn
  have hK : nxK first L O m g f upto = false := by unfold nxK; rw [hk]; simp
  refine ⟨if_pos h, by unfold nxG; rw [if_pos h, hK]; rfl, by unfold nxF; rw [if_pos h, hK]; rfl, by unfold nxX; rw [hK]; rfl, hK, by unfold nxT; rw [hK]; rfl⟩
end

theorem nxt_in {m : Int} {A : List (List Fr)} {n i : Nat} {upto : Int} (hm : m = 1 ∨ m = 3) (hu : m = 3 → (frAt (grAt A n) i).time ≤ upto) (hn : n < A.length) (hi : i < (grAt A n).length) : nxt m A n i upto = some (n, i, false) := by
  unfold nxt
  rw [if_neg (by omega), if_neg (by rw [Int.toNat_natCast]; omega), Int.toNat_natCast, if_neg (by omega), Int.toNat_natCast]
  unfold tryAt
  rw [if_neg (fun h => by have := hu h.1; omega)]
theorem nxt_behind {m : Int} {A : List (List Fr)} {n : Nat} {upto : Int} (hm : m = 1 ∨ m = 3) (hu : m = 3 → (frAt (grAt A (n + 1)) 0).time ≤ upto) (hn : n + 1 < A.length) : nxt m A n (grAt A n).length upto = some (n + 1, 0, false) := by
  unfold nxt
  rw [if_neg (by omega), if_neg (by rw [Int.toNat_natCast]; omega), Int.toNat_natCast, if_pos rfl, if_neg (by omega)]
  unfold tryAt
  rw [if_neg (fun h => by have := hu h.1; omega)]
theorem nxt_end {m : Int} {A : List (List Fr)} {n : Nat} {upto : Int} (hn : n + 1 = A.length) : nxt m A n (grAt A n).length upto = none := by
  unfold nxt
  by_cases h : m = 2 ∨ A.length = 0
  · rw [if_pos h]
  · rw [if_neg h, if_neg (by rw [Int.toNat_natCast]; omega), Int.toNat_natCast, if_pos rfl, if_pos hn]
theorem nxt_some {m : Int} {A : List (List Fr)} {d f upto : Int} {k j : Nat} {t : Bool} (h : nxt m A d f upto = some (k, j, t)) : ¬ m = 2 ∧ (t = true → j = 0) ∧ (m = 3 → (frAt (grAt A k) j).time ≤ upto) := by
  have ht : ∀ k' j' t', tryAt m upto A k' j' t' = some (k, j, t) → k = k' ∧ j = j' ∧ t = t' ∧ (m = 3 → (frAt (grAt A k) j).time ≤ upto) := fun k' j' t' h => by
    unfold tryAt at h
    by_cases h1 : m = 3 ∧ upto < (frAt (grAt A k') j').time
    · rw [if_pos h1] at h; cases h
    · rw [if_neg h1] at h
      injection h with h
      injection h with a b
      injection b with b c
      subst a b c
      exact ⟨rfl, rfl, rfl, fun h => by omega⟩
  unfold nxt at h
  by_cases h1 : m = 2 ∨ A.length = 0
  · rw [if_pos h1] at h; cases h
  rw [if_neg h1] at h
  refine ⟨by omega, ?_⟩
  split at h
  · obtain ⟨a, b, c, d⟩ := ht _ _ _ h
    exact ⟨fun _ => b, d⟩
  · split at h
    · split at h
      · cases h
      · obtain ⟨a, b, c, d⟩ := ht _ _ _ h
        exact ⟨fun _ => b, d⟩
    · obtain ⟨a, b, c, d⟩ := ht _ _ _ h
      exact ⟨fun h => (by rw [c] at h; cases h), d⟩
theorem nxt_live_none {A : List (List Fr)} {d f upto : Int} (h : nxt 1 A d f upto = none) (hA : ¬ A.length = 0) : ∃ n : Nat, d = n ∧ n + 1 = A.length ∧ f = (grAt A n).length := by
  have ht : ∀ k' j' t', ¬ tryAt 1 upto A k' j' t' = none := fun k' j' t' h => by
    unfold tryAt at h
    rw [if_neg (by omega)] at h
    cases h
  unfold nxt at h
  rw [if_neg (by omega)] at h
  split at h
  · exact absurd h (ht _ _ _)
  · rename_i h1
    split at h
    · rename_i h2
      split at h
      · rename_i h3
        exact ⟨d.toNat, by omega, h3, h2⟩
      · exact absurd h (ht _ _ _)
    · exact absurd h (ht _ _ _)
theorem gchk_key {l : List Fr} (h : gchk l = 0) {j : Nat} (hj : j < l.length) : (frAt l j).key = decide (j = 0) := by
  have := ((gchk_zero.1 h).2.2 j hj).2
  unfold inPl at this
  by_cases h0 : j = 0
  · rw [if_pos h0] at this
    rw [this, decide_eq_true h0]
  · rw [if_neg h0] at this
    simp at this
    rw [this.1, decide_eq_false h0]
theorem gchk_time {l : List Fr} (h : gchk l = 0) {j : Nat} (hj : j < l.length) : 0 ≤ (frAt l j).time ∧ (frAt l j).time ≤ 1000000 := by
  have := chkF_zero ((gchk_zero.1 h).2.2 j hj).1
  exact ⟨this.1, this.2.1⟩

/-- what comes of a frame more, for a live one that stands behind the last frame -/
theorem adds_live {first : Int} {L : List (List Fr)} {O : List Fr} {f : Fr} (h : addsE first L O f = 0) {n : Nat} (hn : n + 1 = (allG L O).length) (upto : Int) :
    ((f.key = true ∨ ¬ (addsO first L O f).length = O.length) ∧ ∃ k j : Nat, nxt 1 (allG (addsL first L O f) (addsO first L O f)) (first + n - addsF first L O f) (grAt (allG L O) n).length upto = some (k, j, false) ∧ frAt (grAt (allG (addsL first L O f) (addsO first L O f)) k) j = f) ∨
    (f.key = false ∧ addsO first L O f = O ∧ nxt 1 (allG (addsL first L O f) (addsO first L O f)) (first + n - addsF first L O f) (grAt (allG L O) n).length upto = none) := by
  obtain ⟨h1, h2, h3, e1, e2, e3, e4⟩ := addsE_zero h
  rcases closedG_cases O f with ⟨e, hk⟩ | ⟨e, hk, h0⟩
  · obtain ⟨u1, u2⟩ := adds_open h (by rw [e4, e]; rfl)
    rw [u1, u2, e3, show first + (n : Int) - first = n by omega]
    by_cases hO : 0 < O.length
    · have hkf : f.key = false := by cases hf : f.key
                                     · rfl
                                     · exact absurd ⟨hf, hO⟩ hk
      have eA : allG L O = L ++ [O] := if_pos hO
      rw [eA] at hn ⊢
      have hnL : n = L.length := by simp at hn; omega
      subst hnL
      have eg : grAt (L ++ [O]) L.length = O := by rw [grAt_append, if_neg (by omega), Nat.sub_self]; rfl
      rw [eg]
      unfold growG
      rw [hkf, if_neg (by decide)]
      split
      · right
        rw [eA]
        refine ⟨rfl, rfl, ?_⟩
        have := nxt_end (m := 1) (A := L ++ [O]) (n := L.length) (upto := upto) (by simp)
        rw [eg] at this; exact this
      · left
        have eA' : allG L (O ++ [f]) = L ++ [O ++ [f]] := if_pos (by simp)
        have eg' : grAt (L ++ [O ++ [f]]) L.length = O ++ [f] := by rw [grAt_append, if_neg (by omega), Nat.sub_self]; rfl
        rw [eA']
        refine ⟨.inr (by simp), L.length, O.length, ?_, ?_⟩
        · exact nxt_in (.inl rfl) (by omega) (by simp) (by rw [eg']; simp)
        · rw [eg']; simp [frAt]
    · have hO0 : O = [] := List.eq_nil_of_length_eq_zero (by omega)
      subst hO0
      have eA : allG L [] = L := if_neg (by simp)
      rw [eA] at hn ⊢
      cases hf : f.key
      · right
        have : growG [] f = [] := by unfold growG; rw [hf]; rfl
        rw [this, eA]
        exact ⟨rfl, rfl, nxt_end hn⟩
      · left
        have : growG [] f = [f] := by unfold growG; rw [hf]; rfl
        rw [this]
        have eA' : allG L [f] = L ++ [[f]] := if_pos (by simp)
        rw [eA']
        refine ⟨.inl rfl, n + 1, 0, ?_, ?_⟩
        · have := nxt_behind (m := 1) (A := L ++ [[f]]) (n := n) (upto := upto) (.inl rfl) (by omega) (by simp; omega)
          rw [grAt_append, if_pos (by omega)] at this
          exact this
        · rw [grAt_append, if_neg (by omega), hn, Nat.sub_self]; rfl
  · left
    have eA : allG L O = L ++ [O] := if_pos h0
    rw [eA] at hn ⊢
    have hnL : n = L.length := by simp at hn; omega
    subst hnL
    have eg : grAt (L ++ [O]) L.length = O := by rw [grAt_append, if_neg (by omega), Nat.sub_self]; rfl
    have eo : growG O f = [f] := by unfold growG; rw [hk]; rfl
    rw [e1, e2, e3, e, eo, eg]
    obtain ⟨T, hT⟩ : ∃ T, T = trimD (L ++ [O]) := ⟨_, rfl⟩
    have hTl := trimD_le (L ++ [O])
    rw [← hT] at hTl ⊢
    have hTl : T ≤ L.length := by simp at hTl; omega
    have eA' : allG ((L ++ [O]).drop T) [f] = (L ++ [O]).drop T ++ [[f]] := if_pos (by simp)
    rw [eA']
    have hl : ((L ++ [O]).drop T).length = L.length - T + 1 := by rw [List.length_drop]; simp; omega
    refine ⟨.inl hk, L.length - T + 1, 0, ?_, ?_⟩
    · have := nxt_behind (m := 1) (A := (L ++ [O]).drop T ++ [[f]]) (n := L.length - T) (upto := upto) (.inl rfl) (by omega) (by rw [List.length_append, hl]; simp)
      rw [grAt_append, if_pos (by omega), grAt_drop, show T + (L.length - T) = L.length by omega, eg] at this
      rw [show first + (L.length : Int) - (first + T) = ((L.length - T : Nat) : Int) by omega]
      exact this
    · rw [grAt_append, if_neg (by omega), hl, Nat.sub_self]; rfl

/-- the frames from a place on -/
def restF (A : List (List Fr)) (k j : Nat) : List Fr := (grAt A k).drop j ++ (A.drop (k + 1)).flatten
theorem restF_in {A : List (List Fr)} {k j : Nat} (hj : j < (grAt A k).length) : restF A k j = frAt (grAt A k) j :: restF A k (j + 1) := by
  unfold restF
  rw [List.drop_eq_getElem_cons hj, List.cons_append]
  congr 1
  simp [frAt, List.getElem?_eq_getElem hj]
theorem restF_behind {A : List (List Fr)} {k : Nat} (hk : k + 1 < A.length) (h0 : 0 < (grAt A (k + 1)).length) : restF A k (grAt A k).length = frAt (grAt A (k + 1)) 0 :: restF A (k + 1) 1 := by
  have : restF A k (grAt A k).length = restF A (k + 1) 0 := by
    unfold restF
    rw [List.drop_length, List.nil_append, List.drop_eq_getElem_cons hk, List.flatten_cons, List.drop_zero]
    congr 1
    simp [grAt, List.getElem?_eq_getElem hk]
  rw [this, restF_in h0]
theorem restF_end {A : List (List Fr)} {k : Nat} (hk : k + 1 = A.length) : restF A k (grAt A k).length = [] := by
  unfold restF
  rw [List.drop_length, List.nil_append, List.drop_of_length_le (by omega)]; rfl
theorem restF_all {A : List (List Fr)} {k : Nat} (hk : k < A.length) : restF A k 0 = (A.drop k).flatten := by
  unfold restF
  rw [List.drop_zero, List.drop_eq_getElem_cons hk, List.flatten_cons]
  congr 1
  simp [grAt, List.getElem?_eq_getElem hk]
theorem flatten_len {A : List (List Fr)} (h : ∀ g ∈ A, g.length ≤ 6) : A.flatten.length ≤ A.length * 6 := by
  induction A with
  | nil => simp
  | cons g r ih =>
    have := ih fun x hx => h x (List.mem_cons_of_mem _ hx)
    have := h g List.mem_cons_self
    simp only [List.flatten_cons, List.length_append, List.length_cons]
    omega
/-- the groups from a number on, one by one -/
theorem wantF_step {A : List (List Fr)} {k q : Nat} (hk : k ≤ q) (hq : q < A.length) : ((A.drop k).take (q + 1 - k)).flatten = ((A.drop k).take (q - k)).flatten ++ grAt A q := by
  rw [show q + 1 - k = (q - k) + 1 by omega]
  have hl : q - k < (A.drop k).length := by rw [List.length_drop]; omega
  rw [take_one hl [], List.flatten_append, List.getElem?_drop, show k + (q - k) = q by omega]
  simp [grAt]
theorem wantF_end {A : List (List Fr)} {k q : Nat} (hq : A.length ≤ q) : ((A.drop k).take (q - k)).flatten = (A.drop k).flatten := by
  rw [List.take_of_length_le (by rw [List.length_drop]; omega)]

end Go.Proofs.Ytnpaejknoipicae

namespace Go.Proofs.Ytnpaejknoipicae
open Go.RowKit

def StayK (S : List Nat) (w : World) (P : World → Prop) : Prop := ∀ w', Kept S w w' → P w'
theorem StayK.now {S : List Nat} {w : World} {P : World → Prop} (h : StayK S w P) : P w := h w (Kept.refl _ _)
theorem StayK.step {S : List Nat} {w w' : World} {P : World → Prop} (h : StayK S w P) (hk : Kept S w w') : StayK S w' P := fun w'' h2 => h w'' (hk.trans h2)
theorem StayK.go {S : List Nat} {w w' : World} {P : World → Prop} (h : Hid (StayK S w P)) (hk : Below w.heap.size w w') : Hid (StayK S w' P) := StayK.step h ((Kept.refl _ _).below hk)
theorem StayK.goK {S : List Nat} {w w' : World} {P : World → Prop} (h : Hid (StayK S w P)) (hk : Kept S w w') : Hid (StayK S w' P) := StayK.step h hk
theorem StayK.allocE {S : List Nat} {w W : World} {P : World → Prop} {o : Obj} (h : Hid (StayK S w P)) (e : W = w.alloc o) : Hid (StayK S W P) := by subst e; exact StayK.step h ((Kept.refl _ _).alloc _)
theorem StayK.and {S : List Nat} {w : World} {P Q : World → Prop} (h : StayK S w P) (k : StayK S w Q) : StayK S w (fun U => P U ∧ Q U) := fun w' hb => ⟨h w' hb, k w' hb⟩
theorem Stay.toK {w W : World} {P : World → Prop} {o : Obj} (h : Stay w P) (e : W = w.alloc o) : StayK [w.heap.size] W P := by
  subst e
  intro w' hk
  refine h w' (((Below.refl _ w).alloc (Nat.le_refl _) o).trans ?_)
  exact hk.toBelow (by simp) (fun k hk => by simp at hk; omega)
theorem Kept.sameOn {S : List Nat} {X : Nat → Prop} {w w' : World} (h : Kept S w w') (hx : ∀ g, X g → g ∉ S) : SameOn X w w' := ⟨h.size, fun g hg hX => h.block g hg (hx g hX)⟩
theorem Blk.stayK {S : List Nat} {w : World} {b : Nat} {C : Array Value} {t : TypeId} (h : Blk w b C t) (hS : b ∉ S) : StayK S w (fun U => Blk U b C t) := fun _ hk => h.kept hk hS
theorem FrsIn.stayK {S : List Nat} {X : Nat → Prop} {w : World} {v : Value} {l : List Fr} (h : FrsIn X w v l) (hx : ∀ g, X g → g ∉ S) : StayK S w (fun U => FrsIn X U v l) := fun _ hk => h.to (hk.sameOn hx) fun _ _ h => h
theorem StrsIn.stayK {S : List Nat} {X : Nat → Prop} {w : World} {v : Value} {l : List ByteArray} (h : StrsIn X w v l) (hx : ∀ g, X g → g ∉ S) : StayK S w (fun U => StrsIn X U v l) := fun _ hk => h.to (hk.sameOn hx) fun _ _ h => h
theorem GrsIn.stayK {S : List Nat} {X : Nat → Prop} {w : World} {v : Value} {l : List (List Fr)} (h : GrsIn X w v l) (hx : ∀ g, X g → g ∉ S) : StayK S w (fun U => GrsIn X U v l) := fun _ hk => h.to (hk.sameOn hx) fun _ _ h => h
theorem below_stayK {S : List Nat} {B : Nat} {a w : World} (h : Below B a w) (hB : B ≤ w.heap.size) (hS : ∀ k ∈ S, B ≤ k) : StayK S w (fun U => Below B a U) := fun _ hk => h.trans (hk.toBelow hB hS)

/-- three cells are put in three others' place -/
theorem Blk.put3 {w : World} {b : Nat} {x0 x1 x2 : Value} {t : TypeId} (h : Blk w b #[x0, x1, x2] t) (y0 y1 y2 : Value) : Blk (((w.setCell ⟨b, 0, none⟩ y0).setCell ⟨b, 1, none⟩ y1).setCell ⟨b, 2, none⟩ y2) b #[y0, y1, y2] t := ((h.set 0 y0).set 1 y1).set 2 y2
theorem Kept.put3 {S : List Nat} {a w : World} {b : Nat} (h : Kept S a w) (hb : b ∈ S) (y0 y1 y2 : Value) : Kept S a (((w.setCell ⟨b, 0, none⟩ y0).setCell ⟨b, 1, none⟩ y1).setCell ⟨b, 2, none⟩ y2) := ((h.setCell (p := ⟨b, 0, none⟩) hb y0).setCell (p := ⟨b, 1, none⟩) hb y1).setCell (p := ⟨b, 2, none⟩) hb y2

end Go.Proofs.Ytnpaejknoipicae

namespace Go.Proofs.Ytnpaejknoipicae
open Go.RowKit

theorem eql_cur (a b c a' b' c' : Int) (w : World) : (binOp .eql 41 (.agg #[.int .i64 a, .int .i64 b, .int .i64 c]) (.agg #[.int .i64 a', .int .i64 b', .int .i64 c'])).run Try.prog w = .ok (.bool ((a == a') && ((b == b') && (c == c')))) w := by
  rw [run_eql_struct, run_equalIn_agg w 9999 41 _ _ (by kernel_rfl) (by kernel_rfl)]
  rw [show (Try.prog.fieldsOf 41) = _ by unfold Program.fieldsOf; rw [Try.underlying41]]
  cases h0 : (a == a')
  · simp [go_sem, h0]
  cases h1 : (b == b')
  · simp [go_sem, h0, h1]
  cases h2 : (c == c')
  · simp [go_sem, h0, h1, h2]
  · simp [go_sem, h0, h1, h2]

theorem neql_cur (a b c a' b' c' : Int) (w : World) : (binOp .neq 41 (.agg #[.int .i64 a, .int .i64 b, .int .i64 c]) (.agg #[.int .i64 a', .int .i64 b', .int .i64 c'])).run Try.prog w = .ok (.bool (!((a == a') && ((b == b') && (c == c'))))) w := by
  rw [run_neq_struct, run_equalIn_agg w 9999 41 _ _ (by kernel_rfl) (by kernel_rfl)]
  rw [show (Try.prog.fieldsOf 41) = _ by unfold Program.fieldsOf; rw [Try.underlying41]]
  cases h0 : (a == a')
  · simp [go_sem, h0]
  cases h1 : (b == b')
  · simp [go_sem, h0, h1]
  cases h2 : (c == c')
  · simp [go_sem, h0, h1, h2]
  · simp [go_sem, h0, h1, h2]

/-- what a row's frame shows -/
theorem FrsIn.at {S : Nat → Prop} {w : World} {ao : Option Addr} {n c k : Nat} {l : List Fr} (h : FrsIn S w (.slice ao n c) l) (hk : k < l.length) : ∃ b off pa pc, ao = some ⟨b, off, none⟩ ∧ b < w.heap.size ∧ S b ∧ w.cell? ⟨b, off + k * 3, none⟩ = some (.int .i64 (frAt l k).time) ∧ w.cell? ⟨b, off + k * 3 + 1, none⟩ = some (.bool (frAt l k).key) ∧ w.cell? ⟨b, off + k * 3 + 2, none⟩ = some (.slice pa (frAt l k).parts.length pc) ∧ StrsIn S w (.slice pa (frAt l k).parts.length pc) (frAt l k).parts := by
  obtain ⟨ao', c', e, _, _, hc⟩ := h
  injection e with e1 e2 e3
  subst e1 e2 e3
  obtain ⟨b, off, e1, hb, hS, pv, c0, c1, c2, hp⟩ := hc k hk
  obtain ⟨pa, pc, ep⟩ := hp.1.len
  have hp' : StrsIn S w pv (frAt l k).parts := hp
  subst ep
  exact ⟨b, off, pa, pc, e1, hb, hS, c0, c1, c2, hp'⟩
/-- what a row's group shows -/
theorem GrsIn.at {S : Nat → Prop} {w : World} {ao : Option Addr} {n c k : Nat} {L : List (List Fr)} (h : GrsIn S w (.slice ao n c) L) (hk : k < L.length) : ∃ b off sa sc, ao = some ⟨b, off, none⟩ ∧ b < w.heap.size ∧ S b ∧ w.cell? ⟨b, off + k, none⟩ = some (.slice sa (grAt L k).length sc) ∧ FrsIn S w (.slice sa (grAt L k).length sc) (grAt L k) := by
  obtain ⟨ao', c', e, _, _, hc⟩ := h
  injection e with e1 e2 e3
  subst e1 e2 e3
  obtain ⟨b, off, e1, hb, hS, sv, c0, hs⟩ := hc k hk
  have hs' : FrsIn S w sv (grAt L k) := hs
  obtain ⟨sa, sc, es, _, _⟩ := hs'.len
  subst es
  exact ⟨b, off, sa, sc, e1, hb, hS, c0, hs'⟩
theorem StrsIn.slice {S : Nat → Prop} {w : World} {v : Value} {l : List ByteArray} (h : StrsIn S w v l) : ∃ a c, v = .slice a l.length c := h.1.len
theorem sameFB_refl (t : Int) (k : Bool) (l : List ByteArray) : sameFB t t k k l l = true := (sameFB_iff ⟨t, k, l⟩ ⟨t, k, l⟩).2 rfl

/-- the boxes of what Next answers -/
theorem two_boxes {w : World} {P : World → Prop} (h : Hid (Stay w P)) {C D : Array Value} {t u : TypeId} {W : World} (e : W = (w.alloc (.cells C t)).alloc (.cells D u)) :
    Hid (Stay W P) ∧ Hid (Stay W (fun U => Blk U w.heap.size C t ∧ Blk U (w.heap.size + 1) D u)) ∧ Below w.heap.size w W := by
  subst e
  have h2 := Blk.new (w.alloc (.cells C t)) D u
  rw [World.size_alloc] at h2
  exact ⟨(h.out.alloc _).alloc _, ((Blk.new _ _ _).alloc _).stay.and h2.stay, by go_grown⟩

end Go.Proofs.Ytnpaejknoipicae

namespace Go.Proofs.Ytnpaejknoipicae
open Go.RowKit Go.Sort

/-- what NextOf must answer -/
def NxRes (N : Option (Nat × Nat × Bool)) (m g f first : Int) (A : List (List Fr)) (c0 c1 c2 : Int) (x : Fr) (ok turn : Bool) : Prop := match N with
  | none => c0 = m ∧ c1 = g ∧ c2 = f ∧ x = Fr.zero ∧ ok = false ∧ turn = false
  | some (k, j, t) => c0 = m ∧ c1 = first + k ∧ c2 = (j : Int) + 1 ∧ x = frAt (grAt A k) j ∧ ok = true ∧ turn = t
def NxPost (N : Option (Nat × Nat × Bool)) (m g f first : Int) (A : List (List Fr)) (w : World) (e : Ending) (w' : World) : Prop := ∃ (c0 c1 c2 : Int) (x : Fr) (pv : Value) (ok turn : Bool), e = .returned (.tuple #[.agg #[.int .i64 c0, .int .i64 c1, .int .i64 c2], .agg #[.int .i64 x.time, .bool x.key, pv], .bool ok, .bool turn]) ∧ StrsIn (fun _ => True) w' pv x.parts ∧ NxRes N m g f first A c0 c1 c2 x ok turn ∧ Below w.heap.size w w'
theorem NxPost.of {N : Option (Nat × Nat × Bool)} {m g f first : Int} {A : List (List Fr)} {w : World} {e : Ending} {w' : World} (h : ∃ (c0 c1 c2 : Int) (x : Fr) (pv : Value) (ok turn : Bool), e = .returned (.tuple #[.agg #[.int .i64 c0, .int .i64 c1, .int .i64 c2], .agg #[.int .i64 x.time, .bool x.key, pv], .bool ok, .bool turn]) ∧ StrsIn (fun _ => True) w' pv x.parts ∧ NxRes N m g f first A c0 c1 c2 x ok turn ∧ Below w.heap.size w w') : NxPost N m g f first A w e w' := h

end Go.Proofs.Ytnpaejknoipicae

namespace Go.Proofs.Ytnpaejknoipicae
open Go.RowKit Go.Sort

set_option maxHeartbeats 16000000 in
set_option maxRecDepth 100000 in
theorem refNextOf_none (first : Int) (gv ov : Value) (L : List (List Fr)) (O : List Fr) (m g f upto : Int) (w : World) (hg : GrsIn (fun _ => True) w gv L) (ho : FrsIn (fun _ => True) w ov O) (hs : stchk first L O = 0) (hc : curE m g f = 0) (h0' : m = 2 ∨ (allG L O).length = 0) :
    Calls Try.prog 25 #[.agg #[.int .i64 first, gv, ov], .agg #[.int .i64 m, .int .i64 g, .int .i64 f], .int .i64 upto] w fun e w' => ∃ (c0 c1 c2 : Int) (x : Fr) (pv : Value) (ok turn : Bool), e = .returned (.tuple #[.agg #[.int .i64 c0, .int .i64 c1, .int .i64 c2], .agg #[.int .i64 x.time, .bool x.key, pv], .bool ok, .bool turn]) ∧ StrsIn (fun _ => True) w' pv x.parts ∧ NxRes none m g f first (allG L O) c0 c1 c2 x ok turn ∧ Below w.heap.size w w' := by
  obtain ⟨c1, c2, c3, c4, c5, c6⟩ := curE_zero.1 hc
  obtain ⟨s1, s2, s3, _⟩ := stchk_zero.1 hs
  obtain ⟨A, hA⟩ : ∃ A, A = allG L O := ⟨_, rfl⟩
  have hq6 : A.length ≤ 6 := by rw [hA]; exact allG_len L O s3
  have HAR : Hid (∀ k, k < A.length → 0 < (grAt A k).length ∧ (grAt A k).length ≤ 6) := fun k hk => by
    have := gchk_first (by rw [hA]; exact allG_right hs _ (grAt_mem (by rw [← hA]; exact hk)) : gchk (grAt A k) = 0)
    exact ⟨this.1, this.2.1⟩
  obtain ⟨q, hq⟩ : ∃ q, q = A.length := ⟨_, rfl⟩
  have HQ : Hid (q = A.length) := hq
  rw [← hq] at hq6
  obtain ⟨d, hd⟩ : ∃ d, d = g - first := ⟨_, rfl⟩
  obtain ⟨N, hN⟩ : ∃ N : Option (Nat × Nat × Bool), N = none := ⟨_, rfl⟩
  have HNN : Hid (N = none) := hN
  have h0 : m = 2 ∨ q = 0 := by rw [hq, hA]; exact h0'
  rw [← hN]
  clear hN h0'
  have HALL : Hid (∀ U : World, Below w.heap.size w U → Calls Try.prog 16 #[.agg #[.int .i64 first, gv, ov]] U fun e w' => ∃ a c, e = .returned (.slice a q c) ∧ Hid (GrsIn (fun b => b < w.heap.size ∨ U.heap.size ≤ b) w' (.slice a q c) A) ∧ Below U.heap.size U w') := fun U hU => by
    refine (allOf_in (fun b => b < w.heap.size) first gv ov L O U ((hg.mono fun b h _ => h).below hU) ((ho.mono fun b h _ => h).below hU) (by omega)).mono ?_
    rintro e w' ⟨v', rfl, h4, h5⟩
    rw [← hA] at h4
    obtain ⟨a, c, e, _, _⟩ := h4.len
    rw [← hq] at e
    subst e
    exact ⟨a, c, rfl, h4, h5⟩
  obtain ⟨ga, gc, eg, _, _⟩ := hg.len
  obtain ⟨oa, oc, eo, _, _⟩ := ho.len
  obtain ⟨ln, hln⟩ : ∃ n, n = L.length := ⟨_, rfl⟩
  obtain ⟨lo, hlo⟩ : ∃ n, n = O.length := ⟨_, rfl⟩
  rw [← hln] at eg
  rw [← hlo] at eo
  rw [← hA]
  have hdb : -200000 ≤ d ∧ d ≤ 200000 := by omega
  have hgd : g - first = d := hd.symm
  clear hg ho hs hc hA hq hln hlo s3 hd
  subst eg eo
  go_enter Try.func25, Try.ntmps25
  go_wp2_with fail
  obtain ⟨W0, hW0⟩ : ∃ W0, W0 = (((w.alloc (.cells #[.int .i64 first, .slice ga ln gc, .slice oa lo oc] 36)).alloc (.cells #[.int .i64 m, .int .i64 g, .int .i64 f] 41)).alloc (.cells #[.int .i64 0, .int .i64 0, .int .i64 0] 41)).alloc (.cells #[.int .i64 0, .bool false, .slice none 0 0] 39) := ⟨_, rfl⟩
  have HS0 : Hid (Stay W0 (fun U => (Blk U w.heap.size #[.int .i64 first, .slice ga ln gc, .slice oa lo oc] 36 ∧ Blk U (w.heap.size + 1) #[.int .i64 m, .int .i64 g, .int .i64 f] 41) ∧ (Blk U (w.heap.size + 1 + 1) #[.int .i64 0, .int .i64 0, .int .i64 0] 41 ∧ Blk U (w.heap.size + 1 + 1 + 1) #[.int .i64 0, .bool false, .slice none 0 0] 39) ∧ Below w.heap.size w U)) := by
    have hb : Below w.heap.size w W0 := by rw [hW0]; exact ((((Below.refl _ _).alloc (Nat.le_refl _) _).alloc (by simp) _).alloc (by simp; omega) _).alloc (by simp; omega) _
    have k0 : Blk W0 w.heap.size #[.int .i64 first, .slice ga ln gc, .slice oa lo oc] 36 := by rw [hW0]; exact (((Blk.new _ _ _).alloc _).alloc _).alloc _
    have k1 : Blk W0 (w.heap.size + 1) #[.int .i64 m, .int .i64 g, .int .i64 f] 41 := by
      have := Blk.new (w.alloc (.cells #[.int .i64 first, .slice ga ln gc, .slice oa lo oc] 36)) #[.int .i64 m, .int .i64 g, .int .i64 f] 41
      simp only [World.size_alloc] at this
      rw [hW0]; exact (this.alloc _).alloc _
    have k2 : Blk W0 (w.heap.size + 1 + 1) #[.int .i64 0, .int .i64 0, .int .i64 0] 41 := by
      have := Blk.new ((w.alloc (.cells #[.int .i64 first, .slice ga ln gc, .slice oa lo oc] 36)).alloc (.cells #[.int .i64 m, .int .i64 g, .int .i64 f] 41)) #[.int .i64 0, .int .i64 0, .int .i64 0] 41
      simp only [World.size_alloc] at this
      rw [hW0]; exact this.alloc _
    have k3 : Blk W0 (w.heap.size + 1 + 1 + 1) #[.int .i64 0, .bool false, .slice none 0 0] 39 := by
      have := Blk.newE hW0
      simp only [World.size_alloc] at this
      exact this
    exact (k0.stay.and k1.stay).and ((k2.stay.and k3.stay).and (below_stay hb hb.size))
  have z0 : W0.heap.size = w.heap.size + 4 := by rw [hW0]; simp
  rw [← hW0]
  clear hW0
  refine (HALL.out _ HS0.out.now.2.2).mono ?_
  rintro e w1 ⟨va, vc, rfl, GA, b1⟩
  have HS1 := (((HS0.out.step b1)).and (GA.out.mono (S' := fun b => (b < w.heap.size ∨ w.heap.size + 4 ≤ b) ∧ b < w1.heap.size) (fun b hb h => ⟨h.imp id (fun h => by omega), hb⟩)).stay).hid
  have lw1 : w.heap.size + 1 + 1 + 1 < w1.heap.size := HS1.out.now.1.2.1.2.lt
  clear b1 HS0 HALL GA
  -- none: the cursor as it was
  have HNONE : Hid (∀ (Y V : World), Below w1.heap.size w1 Y → V = (((((Y.setCell ⟨w.heap.size + 1 + 1, 0, none⟩ (.int .i64 m)).setCell ⟨w.heap.size + 1 + 1, 1, none⟩ (.int .i64 g)).setCell ⟨w.heap.size + 1 + 1, 2, none⟩ (.int .i64 f)).setCell ⟨w.heap.size + 1 + 1 + 1, 0, none⟩ (.int .i64 0)).setCell ⟨w.heap.size + 1 + 1 + 1, 1, none⟩ (.bool false)).setCell ⟨w.heap.size + 1 + 1 + 1, 2, none⟩ (.slice none 0 0) → Blk V (w.heap.size + 1 + 1) #[.int .i64 m, .int .i64 g, .int .i64 f] 41 ∧ Blk V (w.heap.size + 1 + 1 + 1) #[.int .i64 0, .bool false, .slice none 0 0] 39 ∧ Below w.heap.size w V) := fun Y V hY hV => by
    obtain ⟨_, h2, h3⟩ := (HS1.out Y hY).1
    obtain ⟨n1, n2, n3, _⟩ := endTwo (by omega) (by omega) (by omega) m g f 0 false (.slice none 0 0) h3 h2.1 h2.2 hV
    exact ⟨n1, n2, n3⟩
  obtain ⟨k0, k1, k2⟩ := HS1.out.now.1.1.1.three
  obtain ⟨j0, j1, j2⟩ := HS1.out.now.1.1.2.three
  obtain ⟨W1, hW1⟩ : ∃ W1, W1 = w1.alloc (.cells #[.int .i64 m, .int .i64 g, .int .i64 f] 41) := ⟨_, rfl⟩
  have BW1 : Hid (Below w1.heap.size w1 W1) := by rw [hW1]; exact (Below.refl _ _).alloc (Nat.le_refl _) _
  have KX1 : Hid (Blk W1 w1.heap.size #[.int .i64 m, .int .i64 g, .int .i64 f] 41) := Blk.newE hW1
  have FB := HS1.out W1 BW1.out
  obtain ⟨k0, k1, k2⟩ := FB.1.1.1.three
  obtain ⟨j0, j1, j2⟩ := FB.1.1.2.three
  obtain ⟨p0, p1, p2⟩ := FB.1.2.1.1.three
  obtain ⟨q0, q1, q2⟩ := FB.1.2.1.2.three
  have fp := FB.1.2.1.1.free
  have fq := FB.1.2.1.2.free
  have lp := FB.1.2.1.1.lt
  have lq := FB.1.2.1.2.lt
  have lj := FB.1.1.2.lt
  have lk := FB.1.1.1.lt
  by_cases hm2 : m = 2
  · have hmb : (m == 2) = true := by simpa using hm2
    subst hW1
    clear FB h0 hm2
    go_wp2_with fail
    obtain ⟨n1, n2, n3⟩ := HNONE.out _ _ BW1.out rfl
    obtain ⟨u0, u1, u2⟩ := n1.three
    obtain ⟨v0, v1, v2⟩ := n2.three
    rw [HNN.out]
    exact bodyPost_ret (v := .tuple #[.agg #[.int .i64 m, .int .i64 g, .int .i64 f], .agg #[.int .i64 0, .bool false, .slice none 0 0], .bool false, .bool false]) (by simp [results, Try.results25, go_sem, u0, u1, u2, v0, v1, v2]) rfl ⟨m, g, f, Fr.zero, .slice none 0 0, false, false, rfl, StrsIn.nil _ _, ⟨rfl, rfl, rfl, rfl, rfl, rfl⟩, n3⟩
  · have hq0 : q = 0 := h0.resolve_left hm2
    have hmb : (m == 2) = false := by simpa using hm2
    subst hq0 hW1
    clear FB h0 hm2
    go_wp2_with fail
    obtain ⟨n1, n2, n3⟩ := HNONE.out _ _ BW1.out rfl
    obtain ⟨u0, u1, u2⟩ := n1.three
    obtain ⟨v0, v1, v2⟩ := n2.three
    rw [HNN.out]
    exact bodyPost_ret (v := .tuple #[.agg #[.int .i64 m, .int .i64 g, .int .i64 f], .agg #[.int .i64 0, .bool false, .slice none 0 0], .bool false, .bool false]) (by simp [results, Try.results25, go_sem, u0, u1, u2, v0, v1, v2]) rfl ⟨m, g, f, Fr.zero, .slice none 0 0, false, false, rfl, StrsIn.nil _ _, ⟨rfl, rfl, rfl, rfl, rfl, rfl⟩, n3⟩

end Go.Proofs.Ytnpaejknoipicae

namespace Go.Proofs.Ytnpaejknoipicae
open Go.RowKit Go.Sort

set_option maxHeartbeats 16000000 in
set_option maxRecDepth 100000 in
theorem refNextOf_j1 (first : Int) (gv ov : Value) (L : List (List Fr)) (O : List Fr) (m g f upto : Int) (w : World) (hg : GrsIn (fun _ => True) w gv L) (ho : FrsIn (fun _ => True) w ov O) (hs : stchk first L O = 0) (hc : curE m g f = 0) (hm2 : ¬ m = 2) (hq0' : ¬ (allG L O).length = 0) (hj' : g - first < 0 ∨ ((allG L O).length : Int) ≤ g - first ∨ ((grAt (allG L O) (g - first).toNat).length : Int) < f) (hm1 : m = 1) :
    Calls Try.prog 25 #[.agg #[.int .i64 first, gv, ov], .agg #[.int .i64 m, .int .i64 g, .int .i64 f], .int .i64 upto] w fun e w' => ∃ (c0 c1 c2 : Int) (x : Fr) (pv : Value) (ok turn : Bool), e = .returned (.tuple #[.agg #[.int .i64 c0, .int .i64 c1, .int .i64 c2], .agg #[.int .i64 x.time, .bool x.key, pv], .bool ok, .bool turn]) ∧ StrsIn (fun _ => True) w' pv x.parts ∧ NxRes (tryAt m upto (allG L O) ((allG L O).length - 1) 0 true) m g f first (allG L O) c0 c1 c2 x ok turn ∧ Below w.heap.size w w' := by
  obtain ⟨c1, c2, c3, c4, c5, c6⟩ := curE_zero.1 hc
  obtain ⟨s1, s2, s3, _⟩ := stchk_zero.1 hs
  obtain ⟨A, hA⟩ : ∃ A, A = allG L O := ⟨_, rfl⟩
  have hq6 : A.length ≤ 6 := by rw [hA]; exact allG_len L O s3
  have HAR : Hid (∀ k, k < A.length → 0 < (grAt A k).length ∧ (grAt A k).length ≤ 6) := fun k hk => by
    have := gchk_first (by rw [hA]; exact allG_right hs _ (grAt_mem (by rw [← hA]; exact hk)) : gchk (grAt A k) = 0)
    exact ⟨this.1, this.2.1⟩
  obtain ⟨q, hq⟩ : ∃ q, q = A.length := ⟨_, rfl⟩
  have HQ : Hid (q = A.length) := hq
  rw [← hq] at hq6
  have HM1 : Hid (m = 1) := hm1
  clear hm1
  obtain ⟨d, hd⟩ : ∃ d, d = g - first := ⟨_, rfl⟩
  obtain ⟨N, hN⟩ : ∃ N : Option (Nat × Nat × Bool), N = tryAt m upto A (A.length - 1) 0 true := ⟨_, rfl⟩
  have HJ : Hid (d < 0 ∨ (q : Int) ≤ d ∨ ((grAt A d.toNat).length : Int) < f) := by rw [hd, hq, hA]; exact hj'
  have hq0 : ¬ q = 0 := by rw [hq, hA]; exact hq0'
  have HNA0 : Hid (N = tryAt m upto A (A.length - 1) 0 true) := hN
  rw [← hA, ← hN]
  clear hN hj' hq0'
  have HALL : Hid (∀ U : World, Below w.heap.size w U → Calls Try.prog 16 #[.agg #[.int .i64 first, gv, ov]] U fun e w' => ∃ a c, e = .returned (.slice a q c) ∧ Hid (GrsIn (fun b => b < w.heap.size ∨ U.heap.size ≤ b) w' (.slice a q c) A) ∧ Below U.heap.size U w') := fun U hU => by
    refine (allOf_in (fun b => b < w.heap.size) first gv ov L O U ((hg.mono fun b h _ => h).below hU) ((ho.mono fun b h _ => h).below hU) (by omega)).mono ?_
    rintro e w' ⟨v', rfl, h4, h5⟩
    rw [← hA] at h4
    obtain ⟨a, c, e, _, _⟩ := h4.len
    rw [← hq] at e
    subst e
    exact ⟨a, c, rfl, h4, h5⟩
  obtain ⟨ga, gc, eg, _, _⟩ := hg.len
  obtain ⟨oa, oc, eo, _, _⟩ := ho.len
  obtain ⟨ln, hln⟩ : ∃ n, n = L.length := ⟨_, rfl⟩
  obtain ⟨lo, hlo⟩ : ∃ n, n = O.length := ⟨_, rfl⟩
  rw [← hln] at eg
  rw [← hlo] at eo
  have hdb : -200000 ≤ d ∧ d ≤ 200000 := by omega
  have hgd : g - first = d := hd.symm
  clear hg ho hs hc hA hq hln hlo s3 hd
  subst eg eo
  go_enter Try.func25, Try.ntmps25
  go_wp2_with fail
  obtain ⟨W0, hW0⟩ : ∃ W0, W0 = (((w.alloc (.cells #[.int .i64 first, .slice ga ln gc, .slice oa lo oc] 36)).alloc (.cells #[.int .i64 m, .int .i64 g, .int .i64 f] 41)).alloc (.cells #[.int .i64 0, .int .i64 0, .int .i64 0] 41)).alloc (.cells #[.int .i64 0, .bool false, .slice none 0 0] 39) := ⟨_, rfl⟩
  have HS0 : Hid (Stay W0 (fun U => (Blk U w.heap.size #[.int .i64 first, .slice ga ln gc, .slice oa lo oc] 36 ∧ Blk U (w.heap.size + 1) #[.int .i64 m, .int .i64 g, .int .i64 f] 41) ∧ (Blk U (w.heap.size + 1 + 1) #[.int .i64 0, .int .i64 0, .int .i64 0] 41 ∧ Blk U (w.heap.size + 1 + 1 + 1) #[.int .i64 0, .bool false, .slice none 0 0] 39) ∧ Below w.heap.size w U)) := by
    have hb : Below w.heap.size w W0 := by rw [hW0]; exact ((((Below.refl _ _).alloc (Nat.le_refl _) _).alloc (by simp) _).alloc (by simp; omega) _).alloc (by simp; omega) _
    have k0 : Blk W0 w.heap.size #[.int .i64 first, .slice ga ln gc, .slice oa lo oc] 36 := by rw [hW0]; exact (((Blk.new _ _ _).alloc _).alloc _).alloc _
    have k1 : Blk W0 (w.heap.size + 1) #[.int .i64 m, .int .i64 g, .int .i64 f] 41 := by
      have := Blk.new (w.alloc (.cells #[.int .i64 first, .slice ga ln gc, .slice oa lo oc] 36)) #[.int .i64 m, .int .i64 g, .int .i64 f] 41
      simp only [World.size_alloc] at this
      rw [hW0]; exact (this.alloc _).alloc _
    have k2 : Blk W0 (w.heap.size + 1 + 1) #[.int .i64 0, .int .i64 0, .int .i64 0] 41 := by
      have := Blk.new ((w.alloc (.cells #[.int .i64 first, .slice ga ln gc, .slice oa lo oc] 36)).alloc (.cells #[.int .i64 m, .int .i64 g, .int .i64 f] 41)) #[.int .i64 0, .int .i64 0, .int .i64 0] 41
      simp only [World.size_alloc] at this
      rw [hW0]; exact this.alloc _
    have k3 : Blk W0 (w.heap.size + 1 + 1 + 1) #[.int .i64 0, .bool false, .slice none 0 0] 39 := by
      have := Blk.newE hW0
      simp only [World.size_alloc] at this
      exact this
    exact (k0.stay.and k1.stay).and ((k2.stay.and k3.stay).and (below_stay hb hb.size))
  have z0 : W0.heap.size = w.heap.size + 4 := by rw [hW0]; simp
  rw [← hW0]
  clear hW0
  refine (HALL.out _ HS0.out.now.2.2).mono ?_
  rintro e w1 ⟨va, vc, rfl, GA, b1⟩
  have HS1 := (((HS0.out.step b1)).and (GA.out.mono (S' := fun b => (b < w.heap.size ∨ w.heap.size + 4 ≤ b) ∧ b < w1.heap.size) (fun b hb h => ⟨h.imp id (fun h => by omega), hb⟩)).stay).hid
  have lw1 : w.heap.size + 1 + 1 + 1 < w1.heap.size := HS1.out.now.1.2.1.2.lt
  clear b1 HS0 HALL GA
  -- none: the cursor as it was
  have HNONE : Hid (∀ (Y V : World), Below w1.heap.size w1 Y → V = (((((Y.setCell ⟨w.heap.size + 1 + 1, 0, none⟩ (.int .i64 m)).setCell ⟨w.heap.size + 1 + 1, 1, none⟩ (.int .i64 g)).setCell ⟨w.heap.size + 1 + 1, 2, none⟩ (.int .i64 f)).setCell ⟨w.heap.size + 1 + 1 + 1, 0, none⟩ (.int .i64 0)).setCell ⟨w.heap.size + 1 + 1 + 1, 1, none⟩ (.bool false)).setCell ⟨w.heap.size + 1 + 1 + 1, 2, none⟩ (.slice none 0 0) → Blk V (w.heap.size + 1 + 1) #[.int .i64 m, .int .i64 g, .int .i64 f] 41 ∧ Blk V (w.heap.size + 1 + 1 + 1) #[.int .i64 0, .bool false, .slice none 0 0] 39 ∧ Below w.heap.size w V) := fun Y V hY hV => by
    obtain ⟨_, h2, h3⟩ := (HS1.out Y hY).1
    obtain ⟨n1, n2, n3, _⟩ := endTwo (by omega) (by omega) (by omega) m g f 0 false (.slice none 0 0) h3 h2.1 h2.2 hV
    exact ⟨n1, n2, n3⟩
  obtain ⟨k0, k1, k2⟩ := HS1.out.now.1.1.1.three
  obtain ⟨j0, j1, j2⟩ := HS1.out.now.1.1.2.three
  obtain ⟨W1, hW1⟩ : ∃ W1, W1 = w1.alloc (.cells #[.int .i64 m, .int .i64 g, .int .i64 f] 41) := ⟨_, rfl⟩
  have BW1 : Hid (Below w1.heap.size w1 W1) := by rw [hW1]; exact (Below.refl _ _).alloc (Nat.le_refl _) _
  have KX1 : Hid (Blk W1 w1.heap.size #[.int .i64 m, .int .i64 g, .int .i64 f] 41) := Blk.newE hW1
  have hmb : (m == 2) = false := by simpa using hm2
  have hqb : ((q : Int) == 0) = false := by simp; omega
  have FB := HS1.out W1 BW1.out
  obtain ⟨k0, k1, k2⟩ := FB.1.1.1.three
  obtain ⟨j0, j1, j2⟩ := FB.1.1.2.three
  obtain ⟨p0, p1, p2⟩ := FB.1.2.1.1.three
  obtain ⟨q0, q1, q2⟩ := FB.1.2.1.2.three
  have fp := FB.1.2.1.1.free
  have fq := FB.1.2.1.2.free
  have lp := FB.1.2.1.1.lt
  have lq := FB.1.2.1.2.lt
  have lj := FB.1.1.2.lt
  have lk := FB.1.1.1.lt
  obtain ⟨x0, x1, x2⟩ := KX1.out.three
  have fx := KX1.out.free
  have lx := KX1.out.lt
  subst hW1
  go_upto_region 7 with fail
  go_cut [52] (fun s52 wc => s52 = .bool true ∧ Hid (Below w1.heap.size w1 wc) ∧ Hid (Blk wc w1.heap.size #[.int .i64 m, .int .i64 g, .int .i64 f] 41))
  case first =>
    by_cases hd0 : d < 0
    · go_quiet (fail)
      go_wp2_with fail
      go_meet
      case rel => exact ⟨rfl, below_drewN BW1.out _, KX1.out.drewN _⟩
    · by_cases hdq : (q : Int) ≤ d
      · go_quiet (fail)
        go_wp2_with fail
        go_meet
        case rel => exact ⟨rfl, below_drewN BW1.out _, KX1.out.drewN _⟩
      · obtain ⟨k, hk⟩ : ∃ k : Nat, d = k := ⟨d.toNat, by omega⟩
        have hkq : k < q := by omega
        obtain ⟨b, off, sa, sc, e1, hbl, _, r0, _⟩ := FB.2.at (k := k) (by rw [← HQ.out]; exact hkq)
        obtain ⟨nL, hnL⟩ : ∃ n, n = (grAt A k).length := ⟨_, rfl⟩
        rw [← hnL] at r0
        have hnf : (nL : Int) < f := by
          have e : d.toNat = k := by omega
          have h := HJ.out
          rw [e] at h
          rw [hnL]; omega
        have hki : (k : Int) < (q : Int) := by omega
        subst hk e1
        clear hnL
        go_quiet (fail)
        go_wp2_with fail
        go_meet
        case rel => exact ⟨rfl, below_drewN BW1.out _, KX1.out.drewN _⟩
  case rest =>
    obtain ⟨rfl, HBY, KXY⟩ := hcut
    obtain ⟨Y, hY⟩ : ∃ x, x = wc := ⟨wc, rfl⟩
    subst hY
    clear k0 k1 k2 j0 j1 j2 p0 p1 p2 q0 q1 q2 fp fq lp lq lj lk FB x0 x1 x2 fx lx BW1 KX1 HJ
    obtain ⟨YX, hYX⟩ : ∃ V, V = Y.setCell ⟨w1.heap.size, 2, none⟩ (.int .i64 0) := ⟨_, rfl⟩
    have HBX : Hid (Below w1.heap.size w1 YX) := by rw [hYX]; exact HBY.out.setCell (Nat.le_refl _) _
    have KXX : Hid (Blk YX w1.heap.size #[.int .i64 m, .int .i64 g, .int .i64 0] 41) := by
      have := KXY.out.set 2 (.int .i64 0)
      rw [hYX]; simpa [Hid] using this
    obtain ⟨j0, j1, j2⟩ := (HS1.out Y HBY.out).1.1.2.three
    obtain ⟨x0, x1, x2⟩ := KXY.out.three
    have fx := KXY.out.free
    have lx := KXY.out.lt
    have lj := (HS1.out Y HBY.out).1.1.2.lt
    have hjx : ¬ w.heap.size + 1 = w1.heap.size := by omega
    have hm1b : (m == 1) = true := by simpa [Hid] using HM1
    have hm3b : (m == 3) = false := by have := HM1.out; simp; omega
    obtain ⟨k, hk⟩ : ∃ k, k = q - 1 := ⟨_, rfl⟩
    have hkq' : k < q := by omega
    have hqk : (q : Int) - 1 = (k : Int) := by omega
    have HNA : Hid (N = tryAt m upto A k 0 true) := by show _ = _; rw [HNA0.out, ← HQ.out, ← hk]
    clear hk HNA0
    go_wp2_with fail
    rw [← hYX]
    clear hYX j0 j1 j2 x0 x1 x2 fx lx lj
    obtain ⟨Z0, hZ0⟩ : ∃ x, x = YX := ⟨YX, rfl⟩
    subst hZ0
    have HBZ := HBX
    have KXZ := KXX
    obtain ⟨b, off, sa, sc, e1, hbl, _, r0, hsv⟩ := (HS1.out Z0 HBZ.out).2.at (k := k) (by rw [← HQ.out]; exact hkq')
    obtain ⟨b2, off2, pa, pc, e2, hbl2, _, y0, y1, y2, hps⟩ := hsv.at (k := 0) (by first | exact hjl' | exact (HAR.out k (by rw [← HQ.out]; exact hkq')).1)
    obtain ⟨x, hx⟩ : ∃ x, x = frAt (grAt A k) 0 := ⟨_, rfl⟩
    obtain ⟨nL, hnL⟩ : ∃ n, n = (grAt A k).length := ⟨_, rfl⟩
    have hjl : 0 < nL := by rw [hnL]; first | exact hjl' | exact (HAR.out k (by rw [← HQ.out]; exact hkq')).1
    rw [← hx] at y0 y1 y2 hps
    obtain ⟨pn, hpn⟩ : ∃ n, n = x.parts.length := ⟨_, rfl⟩
    rw [← hpn] at y2 hps
    clear hpn
    rw [← hnL] at r0
    have HXE : Hid (x = frAt (grAt A k) 0) := hx
    have HPS : Hid (StrsIn (fun b => (b < w.heap.size ∨ w.heap.size + 4 ≤ b) ∧ b < w1.heap.size) Z0 (.slice pa pn pc) x.parts) := hps
    have hkqi : (k : Int) < (q : Int) := by omega
    have hjn : (0 : Int) < (nL : Int) := by omega
    have hjz : ¬ nL = 0 := by omega
    simp only [Nat.zero_mul, Nat.add_zero] at y0 y1 y2
    obtain ⟨x0, x1, x2⟩ := KXZ.out.three
    have lx := KXZ.out.lt
    have hbz : b < Z0.heap.size := hbl
    have hbz2 : b2 < Z0.heap.size := hbl2
    subst e1 e2
    clear hsv hps hx hnL
    go_wp2_with fail
    refine region_chainG (by kernel_rfl) (by kernel_rfl) [.quiet (.slice (some ⟨b, off, none⟩) q vc) 2, .quiet (.int .i64 k) 2, .quiet (.pointer (some ⟨b, off + k, none⟩)) 2, .quiet (.pointer (some ⟨b, off + k, none⟩)) 2, .quiet (.slice (some ⟨b2, off2, none⟩) nL sc) 2, .quiet (.pointer (some ⟨w1.heap.size, 2, none⟩)) 2, .quiet (.int .i64 0) 2, .quiet (.pointer (some ⟨b2, off2, none⟩)) 2, .quiet (.agg #[.int .i64 x.time, .bool x.key, .slice pa pn pc]) 2, .step 0, .step 1] [9, 10] (by kernel_rfl)
      (fun s r w' => match s with
        | 0 => Below Z0.heap.size Z0 w'
        | 1 => ∃ p, Z0.heap.size ≤ p ∧ Below Z0.heap.size Z0 w' ∧ Blk w' p #[.int .i64 0, .bool false, .slice none 0 0] 39 ∧ r 0 = .pointer (some ⟨p, 0, none⟩)
        | _ => ∃ p, Z0.heap.size ≤ p ∧ Below Z0.heap.size Z0 w' ∧ Blk w' p #[.int .i64 x.time, .bool x.key, .slice pa pn pc] 39 ∧ r 0 = .pointer (some ⟨p, 0, none⟩)
        ) ((Below.refl _ Z0).drew) ?step ?fin
    case step =>
      intro i o ho a' w' s r hI hfree hvals
      have hB : Below Z0.heap.size Z0 w' := by
        match s, hI with
        | 0, hI => exact hI
        | 1, ⟨_, _, hI, _⟩ => exact hI
        | n + 2, ⟨_, _, hI, _⟩ => exact hI
      have z0 := (hB.cell (p := ⟨b, off + k, none⟩) hbz).trans r0
      have z1 := (hB.cell (p := ⟨b2, off2, none⟩) hbz2).trans y0
      have z2 := (hB.cell (p := ⟨b2, off2 + 1, none⟩) hbz2).trans y1
      have z3 := (hB.cell (p := ⟨b2, off2 + 2, none⟩) hbz2).trans y2
      have z4 := (hB.cell (p := ⟨w1.heap.size, 2, none⟩) lx).trans x2
      match i, ho with
      | 0, ho =>
        simp at ho; subst ho
        have e10 : a'.eval (.tmp 10) = .slice (some ⟨b, off, none⟩) q vc := (hfree 10 (by kernel_rfl)).trans rfl
        show s ≤ 2 → _
        intro hs
        refine .inl ⟨rfl, ?_⟩
        generalize a'.eval = ρ at *
        simp [execOp, go_sem, e10]
      | 1, ho =>
        simp at ho; subst ho
        have e14 : a'.eval (.tmp 14) = .int .i64 k := (hfree 14 (by kernel_rfl)).trans rfl
        show s ≤ 2 → _
        intro hs
        refine .inl ⟨rfl, ?_⟩
        generalize a'.eval = ρ at *
        simp [execOp, go_sem, e14]
      | 2, ho =>
        simp at ho; subst ho
        have e76 : a'.eval (.tmp 76) = .slice (some ⟨b, off, none⟩) q vc := hvals 0 _ _ (by kernel_rfl) rfl rfl
        have e77 : a'.eval (.tmp 77) = .int .i64 k := hvals 1 _ _ (by kernel_rfl) rfl rfl
        show s ≤ 2 → _
        intro hs
        refine .inl ⟨rfl, ?_⟩
        generalize a'.eval = ρ at *
        simp [execOp, go_sem, e76, e77, hkqi]
      | 3, ho =>
        simp at ho; subst ho
        have e78 : a'.eval (.tmp 78) = .pointer (some ⟨b, off + k, none⟩) := hvals 2 _ _ (by kernel_rfl) rfl rfl
        show s ≤ 2 → _
        intro hs
        refine .inl ⟨rfl, ?_⟩
        generalize a'.eval = ρ at *
        simp [execOp, go_sem, e78]
      | 4, ho =>
        simp at ho; subst ho
        have e79 : a'.eval (.tmp 79) = .pointer (some ⟨b, off + k, none⟩) := hvals 3 _ _ (by kernel_rfl) rfl rfl
        show s ≤ 2 → _
        intro hs
        refine .inl ⟨rfl, ?_⟩
        generalize a'.eval = ρ at *
        simp [execOp, go_sem, e79, z0]
      | 5, ho =>
        simp at ho; subst ho
        have e12 : a'.eval (.tmp 12) = .pointer (some ⟨w1.heap.size, 0, none⟩) := (hfree 12 (by kernel_rfl)).trans rfl
        show s ≤ 2 → _
        intro hs
        refine .inl ⟨rfl, ?_⟩
        generalize a'.eval = ρ at *
        simp [execOp, go_sem, e12]
      | 6, ho =>
        simp at ho; subst ho
        have e81 : a'.eval (.tmp 81) = .pointer (some ⟨w1.heap.size, 2, none⟩) := hvals 5 _ _ (by kernel_rfl) rfl rfl
        show s ≤ 2 → _
        intro hs
        refine .inl ⟨rfl, ?_⟩
        generalize a'.eval = ρ at *
        simp [execOp, go_sem, e81, z4]
      | 7, ho =>
        simp at ho; subst ho
        have e80 : a'.eval (.tmp 80) = .slice (some ⟨b2, off2, none⟩) nL sc := hvals 4 _ _ (by kernel_rfl) rfl rfl
        have e82 : a'.eval (.tmp 82) = .int .i64 0 := hvals 6 _ _ (by kernel_rfl) rfl rfl
        show s ≤ 2 → _
        intro hs
        refine .inl ⟨rfl, ?_⟩
        generalize a'.eval = ρ at *
        simp [execOp, go_sem, e80, e82, hjz]
      | 8, ho =>
        simp at ho; subst ho
        have e83 : a'.eval (.tmp 83) = .pointer (some ⟨b2, off2, none⟩) := hvals 7 _ _ (by kernel_rfl) rfl rfl
        show s ≤ 2 → _
        intro hs
        refine .inl ⟨rfl, ?_⟩
        generalize a'.eval = ρ at *
        simp [execOp, go_sem, e83, z1, z2, z3]
      | 9, ho =>
        simp at ho; subst ho
        show s = 0 → _ ∧ Oper.wp _ _ _ _ _ _
        intro hs
        subst hs
        refine ⟨rfl, ?_⟩
        have hI0 : Below Z0.heap.size Z0 w' := hI
        refine oper_wp_ok (v := .pointer (some ⟨w'.heap.size, 0, none⟩)) (w' := w'.alloc (.cells #[.int .i64 0, .bool false, .slice none 0 0] 39)) ?_ ⟨_, rfl, w'.heap.size, hI0.size, hI0.alloc hI0.size _, Blk.new _ _ _, updR_at _ _ _⟩
        generalize a'.eval = ρ at *
        simp [execOp, go_sem]
      | 10, ho =>
        simp at ho; subst ho
        have e15 : a'.eval (.tmp 15) = r 0 := hvals 9 _ _ (by kernel_rfl) rfl rfl
        have e84 : a'.eval (.tmp 84) = .agg #[.int .i64 x.time, .bool x.key, .slice pa pn pc] := hvals 8 _ _ (by kernel_rfl) rfl rfl
        show s = 1 → _ ∧ Oper.wp _ _ _ _ _ _
        intro hs
        subst hs
        refine ⟨rfl, ?_⟩
        obtain ⟨p, hp, hB2, hblk, hr⟩ := hI
        rw [hr] at e15
        obtain ⟨t0, t1, t2⟩ := hblk.three
        have fr := hblk.free
        refine oper_wp_skip (w' := ((w'.setCell ⟨p, 0, none⟩ (.int .i64 x.time)).setCell ⟨p, 1, none⟩ (.bool x.key)).setCell ⟨p, 2, none⟩ (.slice pa pn pc)) ?_ ⟨_, rfl, p, hp, ?_, ?_, by rw [updR_ne (by omega)]; exact hr⟩
        · generalize a'.eval = ρ at *
          simp [execOp, go_sem, e15, e84, t0, t1, t2, fr]
        · exact ((hB2.setCell hp _).setCell hp _).setCell hp _
        · exact ((hblk.set 0 (.int .i64 x.time)).set 1 (.bool x.key)).set 2 (.slice pa pn pc)
    case fin =>
      rintro r Y2 ⟨p, hp, bz, KF2', hr⟩
      simp only [putC, Ck.out, hr, Act.put, List.setIfInBounds_toArray, List.set_cons_succ, List.set_cons_zero]
      have hps2 := hp
      have HB2 : Hid (Below w1.heap.size w1 Y2) := HBZ.out.trans (bz.mono HBZ.out.size)
      have KX2 : Hid (Blk Y2 w1.heap.size #[.int .i64 m, .int .i64 g, .int .i64 0] 41) := KXZ.out.below bz KXZ.out.lt
      have KF2 : Hid (Blk Y2 p #[.int .i64 x.time, .bool x.key, .slice pa pn pc] 39) := KF2'
      have HPQ : Hid (StrsIn (fun b => (b < w.heap.size ∨ w.heap.size + 4 ≤ b) ∧ b < w1.heap.size) Y2 (.slice pa pn pc) x.parts) := HPS.out.below bz
      have HPR : Hid (∀ V1 V2 : World, (∀ c, c ≠ w1.heap.size → V1.heap[c]? = Y2.heap[c]?) → V1.heap.size = Y2.heap.size → (∀ c, c ≠ w.heap.size + 1 + 1 → c ≠ w.heap.size + 1 + 1 + 1 → V2.heap[c]? = V1.heap[c]?) → V2.heap.size = V1.heap.size → StrsIn (fun _ => True) V2 (.slice pa pn pc) x.parts) := fun V1 V2 h1 h2 h3 h4 => HPQ.out.to ⟨by omega, fun c _ hS => by rw [h3 c (by omega) (by omega), h1 c (by omega)]⟩ (fun _ _ _ => trivial)
      have lz := KXZ.out.lt
      have hpw : w1.heap.size < p := by omega
      clear bz HPS r0 lx KF2' hps2 hr y0 y1 y2 x0 x1 x2
      have FB := HS1.out Y2 HB2.out
      obtain ⟨k0, k1, k2⟩ := FB.1.1.1.three
      obtain ⟨j0, j1, j2⟩ := FB.1.1.2.three
      obtain ⟨p0, p1, p2⟩ := FB.1.2.1.1.three
      obtain ⟨q0, q1, q2⟩ := FB.1.2.1.2.three
      have fp := FB.1.2.1.1.free
      have fq := FB.1.2.1.2.free
      have lp := FB.1.2.1.1.lt
      have lq := FB.1.2.1.2.lt
      have lj := FB.1.1.2.lt
      have lk := FB.1.1.1.lt
      obtain ⟨x0, x1, x2⟩ := KX2.out.three
      obtain ⟨y0, y1, y2⟩ := KF2.out.three
      have fx := KX2.out.free
      have lx := KX2.out.lt
      have ly := KF2.out.lt
      by_cases h3 : m = 3 ∧ upto < x.time
      · exact absurd h3.1 (by have := HM1.out; omega)
      · have HNS : Hid (N = some (k, 0, true)) := by show _ = _; rw [HNA.out]; unfold tryAt; rw [← HXE.out, if_neg h3]
        have hcond : (m == 3) = false ∨ ((m == 3) = true ∧ ¬ upto < x.time) := by
          by_cases h : m = 3
          · exact .inr ⟨by simpa using h, fun h' => h3 ⟨h, h'⟩⟩
          · exact .inl (by simpa using h)
        obtain ⟨V1, hV1⟩ : ∃ V, V = (Y2.setCell ⟨w1.heap.size, 1, none⟩ (.int .i64 (first + k))).setCell ⟨w1.heap.size, 2, none⟩ (.int .i64 1) := ⟨_, rfl⟩
        have BV1 : Hid (Below w1.heap.size w1 V1) := by rw [hV1]; exact (HB2.out.setCell (Nat.le_refl _) _).setCell (Nat.le_refl _) _
        have KV1 : Hid (Blk V1 w1.heap.size #[.int .i64 m, .int .i64 (first + k), .int .i64 1] 41) := by
          have := (KX2.out.set 1 (.int .i64 (first + k))).set 2 (.int .i64 1)
          rw [hV1]; simpa [Hid] using this
        have hV1o : ∀ c, c ≠ w1.heap.size → V1.heap[c]? = Y2.heap[c]? := fun c hc => by rw [hV1, Below.heap_setCell _ _ _ _ (by exact hc), Below.heap_setCell _ _ _ _ (by exact hc)]
        have hV1s : V1.heap.size = Y2.heap.size := by rw [hV1]; simp
        have KFV : Hid (Blk V1 p #[.int .i64 x.time, .bool x.key, .slice pa pn pc] 39) := (hV1o _ (by omega)).trans KF2.out
        have HPZ : Hid (∀ V2 : World, (∀ c, c ≠ w.heap.size + 1 + 1 → c ≠ w.heap.size + 1 + 1 + 1 → V2.heap[c]? = V1.heap[c]?) → V2.heap.size = V1.heap.size → StrsIn (fun _ => True) V2 (.slice pa pn pc) x.parts) := fun V2 h1 h2 => HPR.out V1 V2 hV1o hV1s h1 h2
        clear h3 FB hV1o hV1s HPR HPQ
        go_upto_region 17 with fail
        go_cut [93] (fun s93 wc => s93 = .bool false ∧ wc = Y2)
        case first =>
          rcases hcond with hcd | ⟨hcd, hcd2⟩
          all_goals
            go_wp2_with fail
            go_meet
            case rel => exact ⟨rfl, rfl⟩
        case rest =>
          obtain ⟨rfl, rfl⟩ := hcut
          go_wp2_with fail
          rw [← hV1]
          clear hV1 hcond k0 k1 k2 j0 j1 j2 p0 p1 p2 q0 q1 q2 fp fq lj lk x0 x1 x2 y0 y1 y2 fx lx ly
          have F1 := HS1.out V1 BV1.out
          have BA : Hid (Blk V1 (w.heap.size + 1 + 1) #[.int .i64 0, .int .i64 0, .int .i64 0] 41) := F1.1.2.1.1
          have BI : Hid (Blk V1 (w.heap.size + 1 + 1 + 1) #[.int .i64 0, .bool false, .slice none 0 0] 39) := F1.1.2.1.2
          have BW : Hid (Below w.heap.size w V1) := F1.1.2.2
          have hn1 : ¬ w1.heap.size = w.heap.size + 1 + 1 := by omega
          have hn2 : ¬ w1.heap.size = w.heap.size + 1 + 1 + 1 := by omega
          have hn3 : ¬ p = w.heap.size + 1 + 1 := by omega
          have hn4 : ¬ p = w.heap.size + 1 + 1 + 1 := by omega
          clear F1
          obtain ⟨EW, hEW⟩ : ∃ E : World → Prop, E = fun V => (∀ c, c ≠ w.heap.size + 1 + 1 → c ≠ w.heap.size + 1 + 1 + 1 → V.heap[c]? = V1.heap[c]?) ∧ V.heap.size = V1.heap.size ∧ Below w.heap.size w V := ⟨_, rfl⟩
          refine region_chainG (by kernel_rfl) (by kernel_rfl) [.quiet (.agg #[.int .i64 m, .int .i64 (first + k), .int .i64 1]) 4, .quiet (.agg #[.int .i64 x.time, .bool x.key, .slice pa pn pc]) 4, .quiet (.bool true) 4, .step 0, .step 1, .step 2, .step 3] [3, 4, 5, 6] (by kernel_rfl)
            (fun s r w' => match s with
              | 0 => EW w' ∧ Blk w' (w.heap.size + 1 + 1) #[.int .i64 0, .int .i64 0, .int .i64 0] 41 ∧ Blk w' (w.heap.size + 1 + 1 + 1) #[.int .i64 0, .bool false, .slice none 0 0] 39
              | 1 => EW w' ∧ Blk w' (w.heap.size + 1 + 1) #[.int .i64 m, .int .i64 (first + k), .int .i64 1] 41 ∧ Blk w' (w.heap.size + 1 + 1 + 1) #[.int .i64 0, .bool false, .slice none 0 0] 39
              | 2 => EW w' ∧ Blk w' (w.heap.size + 1 + 1) #[.int .i64 m, .int .i64 (first + k), .int .i64 1] 41 ∧ Blk w' (w.heap.size + 1 + 1 + 1) #[.int .i64 x.time, .bool x.key, .slice pa pn pc] 39
              | 3 => EW w' ∧ Blk w' (w.heap.size + 1 + 1) #[.int .i64 m, .int .i64 (first + k), .int .i64 1] 41 ∧ Blk w' (w.heap.size + 1 + 1 + 1) #[.int .i64 x.time, .bool x.key, .slice pa pn pc] 39 ∧ r 2 = .bool true
              | _ => EW w' ∧ Blk w' (w.heap.size + 1 + 1) #[.int .i64 m, .int .i64 (first + k), .int .i64 1] 41 ∧ Blk w' (w.heap.size + 1 + 1 + 1) #[.int .i64 x.time, .bool x.key, .slice pa pn pc] 39 ∧ r 2 = .bool true ∧ r 3 = .bool true
              ) (by rw [hEW]; exact ⟨⟨fun c _ _ => rfl, rfl, BW.out.drew⟩, BA.out.drew, BI.out.drew⟩) ?step ?fin
          case step =>
            intro i o ho a' w' s r hI hfree hvals
            have hE : EW w' := by
              match s, hI with
              | 0, hI => exact hI.1
              | 1, hI => exact hI.1
              | 2, hI => exact hI.1
              | 3, hI => exact hI.1
              | n + 4, hI => exact hI.1
            rw [hEW] at hE
            have kx : Blk w' w1.heap.size #[.int .i64 m, .int .i64 (first + k), .int .i64 1] 41 := (hE.1 _ hn1 hn2).trans KV1.out
            have kf : Blk w' p #[.int .i64 x.time, .bool x.key, .slice pa pn pc] 39 := (hE.1 _ hn3 hn4).trans KFV.out
            obtain ⟨a0, a1, a2⟩ := kx.three
            obtain ⟨b0, b1, b2⟩ := kf.three
            match i, ho with
            | 0, ho =>
              simp at ho; subst ho
              have e12 : a'.eval (.tmp 12) = .pointer (some ⟨w1.heap.size, 0, none⟩) := (hfree 12 (by kernel_rfl)).trans rfl
              show s ≤ 4 → _
              intro hs
              refine .inl ⟨rfl, ?_⟩
              generalize a'.eval = ρ at *
              simp [execOp, go_sem, e12, a0, a1, a2]
            | 1, ho =>
              simp at ho; subst ho
              have e15 : a'.eval (.tmp 15) = .pointer (some ⟨p, 0, none⟩) := (hfree 15 (by kernel_rfl)).trans rfl
              show s ≤ 4 → _
              intro hs
              refine .inl ⟨rfl, ?_⟩
              generalize a'.eval = ρ at *
              simp [execOp, go_sem, e15, b0, b1, b2]
            | 2, ho =>
              simp at ho; subst ho
              have e13 : a'.eval (.tmp 13) = .bool true := (hfree 13 (by kernel_rfl)).trans rfl
              show s ≤ 4 → _
              intro hs
              refine .inl ⟨rfl, ?_⟩
              generalize a'.eval = ρ at *
              simp [execOp, go_sem, e13]
            | 3, ho =>
              simp at ho; subst ho
              have e6 : a'.eval (.tmp 6) = .pointer (some ⟨w.heap.size + 1 + 1, 0, none⟩) := (hfree 6 (by kernel_rfl)).trans rfl
              have e105 : a'.eval (.tmp 105) = .agg #[.int .i64 m, .int .i64 (first + k), .int .i64 1] := hvals 0 _ _ (by kernel_rfl) rfl rfl
              show s = 0 → _ ∧ Oper.wp _ _ _ _ _ _
              intro hs
              subst hs
              refine ⟨rfl, ?_⟩
              obtain ⟨_, c1, c2⟩ := hI
              obtain ⟨t0, t1, t2⟩ := c1.three
              have fr := c1.free
              refine oper_wp_skip (w' := ((w'.setCell ⟨w.heap.size + 1 + 1, 0, none⟩ (.int .i64 m)).setCell ⟨w.heap.size + 1 + 1, 1, none⟩ (.int .i64 (first + k))).setCell ⟨w.heap.size + 1 + 1, 2, none⟩ (.int .i64 1)) ?_ ⟨_, rfl, ?_, ?_, ?_⟩
              · generalize a'.eval = ρ at *
                simp [execOp, go_sem, e6, e105, t0, t1, t2, fr]
              · rw [hEW]
                refine ⟨fun c h1 h2 => by rw [Below.heap_setCell _ _ _ _ (by exact h1), Below.heap_setCell _ _ _ _ (by exact h1), Below.heap_setCell _ _ _ _ (by exact h1)]; exact hE.1 c h1 h2, by simp; exact hE.2.1, ?_⟩
                exact ((hE.2.2.setCell (by show _ ≤ w.heap.size + 1 + 1; omega) _).setCell (by show _ ≤ w.heap.size + 1 + 1; omega) _).setCell (by show _ ≤ w.heap.size + 1 + 1; omega) _
              · exact ((c1.set 0 (.int .i64 m)).set 1 (.int .i64 (first + k))).set 2 (.int .i64 1)
              · exact ((c2.other (a := ⟨w.heap.size + 1 + 1, 0, none⟩) (by show w.heap.size + 1 + 1 + 1 ≠ w.heap.size + 1 + 1; omega) _).other (a := ⟨w.heap.size + 1 + 1, 1, none⟩) (by show w.heap.size + 1 + 1 + 1 ≠ w.heap.size + 1 + 1; omega) _).other (a := ⟨w.heap.size + 1 + 1, 2, none⟩) (by show w.heap.size + 1 + 1 + 1 ≠ w.heap.size + 1 + 1; omega) _
            | 4, ho =>
              simp at ho; subst ho
              have e7 : a'.eval (.tmp 7) = .pointer (some ⟨w.heap.size + 1 + 1 + 1, 0, none⟩) := (hfree 7 (by kernel_rfl)).trans rfl
              have e106 : a'.eval (.tmp 106) = .agg #[.int .i64 x.time, .bool x.key, .slice pa pn pc] := hvals 1 _ _ (by kernel_rfl) rfl rfl
              show s = 1 → _ ∧ Oper.wp _ _ _ _ _ _
              intro hs
              subst hs
              refine ⟨rfl, ?_⟩
              obtain ⟨_, c1, c2⟩ := hI
              obtain ⟨t0, t1, t2⟩ := c2.three
              have fr := c2.free
              refine oper_wp_skip (w' := ((w'.setCell ⟨w.heap.size + 1 + 1 + 1, 0, none⟩ (.int .i64 x.time)).setCell ⟨w.heap.size + 1 + 1 + 1, 1, none⟩ (.bool x.key)).setCell ⟨w.heap.size + 1 + 1 + 1, 2, none⟩ (.slice pa pn pc)) ?_ ⟨_, rfl, ?_, ?_, ?_⟩
              · generalize a'.eval = ρ at *
                simp [execOp, go_sem, e7, e106, t0, t1, t2, fr]
              · rw [hEW]
                refine ⟨fun c h1 h2 => by rw [Below.heap_setCell _ _ _ _ (by exact h2), Below.heap_setCell _ _ _ _ (by exact h2), Below.heap_setCell _ _ _ _ (by exact h2)]; exact hE.1 c h1 h2, by simp; exact hE.2.1, ?_⟩
                exact ((hE.2.2.setCell (by show _ ≤ w.heap.size + 1 + 1 + 1; omega) _).setCell (by show _ ≤ w.heap.size + 1 + 1 + 1; omega) _).setCell (by show _ ≤ w.heap.size + 1 + 1 + 1; omega) _
              · exact ((c1.other (a := ⟨w.heap.size + 1 + 1 + 1, 0, none⟩) (by show w.heap.size + 1 + 1 ≠ w.heap.size + 1 + 1 + 1; omega) _).other (a := ⟨w.heap.size + 1 + 1 + 1, 1, none⟩) (by show w.heap.size + 1 + 1 ≠ w.heap.size + 1 + 1 + 1; omega) _).other (a := ⟨w.heap.size + 1 + 1 + 1, 2, none⟩) (by show w.heap.size + 1 + 1 ≠ w.heap.size + 1 + 1 + 1; omega) _
              · exact ((c2.set 0 (.int .i64 x.time)).set 1 (.bool x.key)).set 2 (.slice pa pn pc)
            | 5, ho =>
              simp at ho; subst ho
              have ec0 : a'.eval (.const (.bool true)) = .bool true := rfl
              show s = 2 → _ ∧ Oper.wp _ _ _ _ _ _
              intro hs
              subst hs
              refine ⟨rfl, ?_⟩
              obtain ⟨c0, c1, c2⟩ := hI
              refine oper_wp_ok (v := .bool true) (w' := w') ?_ ⟨_, rfl, c0, c1, c2, updR_at _ _ _⟩
              generalize a'.eval = ρ at *
              simp [execOp, go_sem, ec0]
            | 6, ho =>
              simp at ho; subst ho
              have e107 : a'.eval (.tmp 107) = .bool true := hvals 2 _ _ (by kernel_rfl) rfl rfl
              show s = 3 → _ ∧ Oper.wp _ _ _ _ _ _
              intro hs
              subst hs
              refine ⟨rfl, ?_⟩
              obtain ⟨c0, c1, c2, c3⟩ := hI
              refine oper_wp_ok (v := .bool true) (w' := w') ?_ ⟨_, rfl, c0, c1, c2, by rw [updR_ne (by omega)]; exact c3, updR_at _ _ _⟩
              generalize a'.eval = ρ at *
              simp [execOp, go_sem, e107]
          case fin =>
            rintro r V2 ⟨d0, d1, d2, d3, d4⟩
            simp only [putC, Ck.out, d3, d4, Act.put, List.setIfInBounds_toArray, List.set_cons_succ, List.set_cons_zero]
            rw [hEW] at d0
            have HPV : Hid (StrsIn (fun _ => True) V2 (.slice pa pn pc) x.parts) := HPZ.out V2 d0.1 d0.2.1
            have BV2 : Hid (Below w.heap.size w V2) := d0.2.2
            obtain ⟨u0, u1, u2⟩ := d1.three
            obtain ⟨v0, v1, v2⟩ := d2.three
            clear d0 d1 d2 hEW HPZ BA BI BW KV1 KFV BV1
            go_wp2_with fail
            rw [HNS.out]
            exact bodyPost_ret (v := .tuple #[.agg #[.int .i64 m, .int .i64 (first + k), .int .i64 1], .agg #[.int .i64 x.time, .bool x.key, .slice pa pn pc], .bool true, .bool true]) (by simp [results, Try.results25, go_sem, u0, u1, u2, v0, v1, v2]) rfl ⟨m, (first + k), 1, x, .slice pa pn pc, true, true, rfl, HPV.out, ⟨rfl, by simp, by simp, HXE.out, rfl, rfl⟩, BV2.out⟩

end Go.Proofs.Ytnpaejknoipicae

namespace Go.Proofs.Ytnpaejknoipicae
open Go.RowKit Go.Sort

set_option maxHeartbeats 16000000 in
set_option maxRecDepth 100000 in
theorem refNextOf_j3 (first : Int) (gv ov : Value) (L : List (List Fr)) (O : List Fr) (m g f upto : Int) (w : World) (hg : GrsIn (fun _ => True) w gv L) (ho : FrsIn (fun _ => True) w ov O) (hs : stchk first L O = 0) (hc : curE m g f = 0) (hm2 : ¬ m = 2) (hq0' : ¬ (allG L O).length = 0) (hj' : g - first < 0 ∨ ((allG L O).length : Int) ≤ g - first ∨ ((grAt (allG L O) (g - first).toNat).length : Int) < f) (hm1 : ¬ m = 1) :
    Calls Try.prog 25 #[.agg #[.int .i64 first, gv, ov], .agg #[.int .i64 m, .int .i64 g, .int .i64 f], .int .i64 upto] w fun e w' => ∃ (c0 c1 c2 : Int) (x : Fr) (pv : Value) (ok turn : Bool), e = .returned (.tuple #[.agg #[.int .i64 c0, .int .i64 c1, .int .i64 c2], .agg #[.int .i64 x.time, .bool x.key, pv], .bool ok, .bool turn]) ∧ StrsIn (fun _ => True) w' pv x.parts ∧ NxRes (tryAt m upto (allG L O) 0 0 true) m g f first (allG L O) c0 c1 c2 x ok turn ∧ Below w.heap.size w w' := by
  obtain ⟨c1, c2, c3, c4, c5, c6⟩ := curE_zero.1 hc
  obtain ⟨s1, s2, s3, _⟩ := stchk_zero.1 hs
  obtain ⟨A, hA⟩ : ∃ A, A = allG L O := ⟨_, rfl⟩
  have hq6 : A.length ≤ 6 := by rw [hA]; exact allG_len L O s3
  have HAR : Hid (∀ k, k < A.length → 0 < (grAt A k).length ∧ (grAt A k).length ≤ 6) := fun k hk => by
    have := gchk_first (by rw [hA]; exact allG_right hs _ (grAt_mem (by rw [← hA]; exact hk)) : gchk (grAt A k) = 0)
    exact ⟨this.1, this.2.1⟩
  obtain ⟨q, hq⟩ : ∃ q, q = A.length := ⟨_, rfl⟩
  have HQ : Hid (q = A.length) := hq
  rw [← hq] at hq6
  obtain ⟨d, hd⟩ : ∃ d, d = g - first := ⟨_, rfl⟩
  obtain ⟨N, hN⟩ : ∃ N : Option (Nat × Nat × Bool), N = tryAt m upto A (0) 0 true := ⟨_, rfl⟩
  have HJ : Hid (d < 0 ∨ (q : Int) ≤ d ∨ ((grAt A d.toNat).length : Int) < f) := by rw [hd, hq, hA]; exact hj'
  have hq0 : ¬ q = 0 := by rw [hq, hA]; exact hq0'
  have HNA0 : Hid (N = tryAt m upto A (0) 0 true) := hN
  rw [← hA, ← hN]
  clear hN hj' hq0'
  have HALL : Hid (∀ U : World, Below w.heap.size w U → Calls Try.prog 16 #[.agg #[.int .i64 first, gv, ov]] U fun e w' => ∃ a c, e = .returned (.slice a q c) ∧ Hid (GrsIn (fun b => b < w.heap.size ∨ U.heap.size ≤ b) w' (.slice a q c) A) ∧ Below U.heap.size U w') := fun U hU => by
    refine (allOf_in (fun b => b < w.heap.size) first gv ov L O U ((hg.mono fun b h _ => h).below hU) ((ho.mono fun b h _ => h).below hU) (by omega)).mono ?_
    rintro e w' ⟨v', rfl, h4, h5⟩
    rw [← hA] at h4
    obtain ⟨a, c, e, _, _⟩ := h4.len
    rw [← hq] at e
    subst e
    exact ⟨a, c, rfl, h4, h5⟩
  obtain ⟨ga, gc, eg, _, _⟩ := hg.len
  obtain ⟨oa, oc, eo, _, _⟩ := ho.len
  obtain ⟨ln, hln⟩ : ∃ n, n = L.length := ⟨_, rfl⟩
  obtain ⟨lo, hlo⟩ : ∃ n, n = O.length := ⟨_, rfl⟩
  rw [← hln] at eg
  rw [← hlo] at eo
  have hdb : -200000 ≤ d ∧ d ≤ 200000 := by omega
  have hgd : g - first = d := hd.symm
  clear hg ho hs hc hA hq hln hlo s3 hd
  subst eg eo
  go_enter Try.func25, Try.ntmps25
  go_wp2_with fail
  obtain ⟨W0, hW0⟩ : ∃ W0, W0 = (((w.alloc (.cells #[.int .i64 first, .slice ga ln gc, .slice oa lo oc] 36)).alloc (.cells #[.int .i64 m, .int .i64 g, .int .i64 f] 41)).alloc (.cells #[.int .i64 0, .int .i64 0, .int .i64 0] 41)).alloc (.cells #[.int .i64 0, .bool false, .slice none 0 0] 39) := ⟨_, rfl⟩
  have HS0 : Hid (Stay W0 (fun U => (Blk U w.heap.size #[.int .i64 first, .slice ga ln gc, .slice oa lo oc] 36 ∧ Blk U (w.heap.size + 1) #[.int .i64 m, .int .i64 g, .int .i64 f] 41) ∧ (Blk U (w.heap.size + 1 + 1) #[.int .i64 0, .int .i64 0, .int .i64 0] 41 ∧ Blk U (w.heap.size + 1 + 1 + 1) #[.int .i64 0, .bool false, .slice none 0 0] 39) ∧ Below w.heap.size w U)) := by
    have hb : Below w.heap.size w W0 := by rw [hW0]; exact ((((Below.refl _ _).alloc (Nat.le_refl _) _).alloc (by simp) _).alloc (by simp; omega) _).alloc (by simp; omega) _
    have k0 : Blk W0 w.heap.size #[.int .i64 first, .slice ga ln gc, .slice oa lo oc] 36 := by rw [hW0]; exact (((Blk.new _ _ _).alloc _).alloc _).alloc _
    have k1 : Blk W0 (w.heap.size + 1) #[.int .i64 m, .int .i64 g, .int .i64 f] 41 := by
      have := Blk.new (w.alloc (.cells #[.int .i64 first, .slice ga ln gc, .slice oa lo oc] 36)) #[.int .i64 m, .int .i64 g, .int .i64 f] 41
      simp only [World.size_alloc] at this
      rw [hW0]; exact (this.alloc _).alloc _
    have k2 : Blk W0 (w.heap.size + 1 + 1) #[.int .i64 0, .int .i64 0, .int .i64 0] 41 := by
      have := Blk.new ((w.alloc (.cells #[.int .i64 first, .slice ga ln gc, .slice oa lo oc] 36)).alloc (.cells #[.int .i64 m, .int .i64 g, .int .i64 f] 41)) #[.int .i64 0, .int .i64 0, .int .i64 0] 41
      simp only [World.size_alloc] at this
      rw [hW0]; exact this.alloc _
    have k3 : Blk W0 (w.heap.size + 1 + 1 + 1) #[.int .i64 0, .bool false, .slice none 0 0] 39 := by
      have := Blk.newE hW0
      simp only [World.size_alloc] at this
      exact this
    exact (k0.stay.and k1.stay).and ((k2.stay.and k3.stay).and (below_stay hb hb.size))
  have z0 : W0.heap.size = w.heap.size + 4 := by rw [hW0]; simp
  rw [← hW0]
  clear hW0
  refine (HALL.out _ HS0.out.now.2.2).mono ?_
  rintro e w1 ⟨va, vc, rfl, GA, b1⟩
  have HS1 := (((HS0.out.step b1)).and (GA.out.mono (S' := fun b => (b < w.heap.size ∨ w.heap.size + 4 ≤ b) ∧ b < w1.heap.size) (fun b hb h => ⟨h.imp id (fun h => by omega), hb⟩)).stay).hid
  have lw1 : w.heap.size + 1 + 1 + 1 < w1.heap.size := HS1.out.now.1.2.1.2.lt
  clear b1 HS0 HALL GA
  -- none: the cursor as it was
  have HNONE : Hid (∀ (Y V : World), Below w1.heap.size w1 Y → V = (((((Y.setCell ⟨w.heap.size + 1 + 1, 0, none⟩ (.int .i64 m)).setCell ⟨w.heap.size + 1 + 1, 1, none⟩ (.int .i64 g)).setCell ⟨w.heap.size + 1 + 1, 2, none⟩ (.int .i64 f)).setCell ⟨w.heap.size + 1 + 1 + 1, 0, none⟩ (.int .i64 0)).setCell ⟨w.heap.size + 1 + 1 + 1, 1, none⟩ (.bool false)).setCell ⟨w.heap.size + 1 + 1 + 1, 2, none⟩ (.slice none 0 0) → Blk V (w.heap.size + 1 + 1) #[.int .i64 m, .int .i64 g, .int .i64 f] 41 ∧ Blk V (w.heap.size + 1 + 1 + 1) #[.int .i64 0, .bool false, .slice none 0 0] 39 ∧ Below w.heap.size w V) := fun Y V hY hV => by
    obtain ⟨_, h2, h3⟩ := (HS1.out Y hY).1
    obtain ⟨n1, n2, n3, _⟩ := endTwo (by omega) (by omega) (by omega) m g f 0 false (.slice none 0 0) h3 h2.1 h2.2 hV
    exact ⟨n1, n2, n3⟩
  obtain ⟨k0, k1, k2⟩ := HS1.out.now.1.1.1.three
  obtain ⟨j0, j1, j2⟩ := HS1.out.now.1.1.2.three
  obtain ⟨W1, hW1⟩ : ∃ W1, W1 = w1.alloc (.cells #[.int .i64 m, .int .i64 g, .int .i64 f] 41) := ⟨_, rfl⟩
  have BW1 : Hid (Below w1.heap.size w1 W1) := by rw [hW1]; exact (Below.refl _ _).alloc (Nat.le_refl _) _
  have KX1 : Hid (Blk W1 w1.heap.size #[.int .i64 m, .int .i64 g, .int .i64 f] 41) := Blk.newE hW1
  have hmb : (m == 2) = false := by simpa using hm2
  have hqb : ((q : Int) == 0) = false := by simp; omega
  have FB := HS1.out W1 BW1.out
  obtain ⟨k0, k1, k2⟩ := FB.1.1.1.three
  obtain ⟨j0, j1, j2⟩ := FB.1.1.2.three
  obtain ⟨p0, p1, p2⟩ := FB.1.2.1.1.three
  obtain ⟨q0, q1, q2⟩ := FB.1.2.1.2.three
  have fp := FB.1.2.1.1.free
  have fq := FB.1.2.1.2.free
  have lp := FB.1.2.1.1.lt
  have lq := FB.1.2.1.2.lt
  have lj := FB.1.1.2.lt
  have lk := FB.1.1.1.lt
  obtain ⟨x0, x1, x2⟩ := KX1.out.three
  have fx := KX1.out.free
  have lx := KX1.out.lt
  subst hW1
  go_upto_region 7 with fail
  go_cut [52] (fun s52 wc => s52 = .bool true ∧ Hid (Below w1.heap.size w1 wc) ∧ Hid (Blk wc w1.heap.size #[.int .i64 m, .int .i64 g, .int .i64 f] 41))
  case first =>
    by_cases hd0 : d < 0
    · go_quiet (fail)
      go_wp2_with fail
      go_meet
      case rel => exact ⟨rfl, below_drewN BW1.out _, KX1.out.drewN _⟩
    · by_cases hdq : (q : Int) ≤ d
      · go_quiet (fail)
        go_wp2_with fail
        go_meet
        case rel => exact ⟨rfl, below_drewN BW1.out _, KX1.out.drewN _⟩
      · obtain ⟨k, hk⟩ : ∃ k : Nat, d = k := ⟨d.toNat, by omega⟩
        have hkq : k < q := by omega
        obtain ⟨b, off, sa, sc, e1, hbl, _, r0, _⟩ := FB.2.at (k := k) (by rw [← HQ.out]; exact hkq)
        obtain ⟨nL, hnL⟩ : ∃ n, n = (grAt A k).length := ⟨_, rfl⟩
        rw [← hnL] at r0
        have hnf : (nL : Int) < f := by
          have e : d.toNat = k := by omega
          have h := HJ.out
          rw [e] at h
          rw [hnL]; omega
        have hki : (k : Int) < (q : Int) := by omega
        subst hk e1
        clear hnL
        go_quiet (fail)
        go_wp2_with fail
        go_meet
        case rel => exact ⟨rfl, below_drewN BW1.out _, KX1.out.drewN _⟩
  case rest =>
    obtain ⟨rfl, HBY, KXY⟩ := hcut
    obtain ⟨Y, hY⟩ : ∃ x, x = wc := ⟨wc, rfl⟩
    subst hY
    clear k0 k1 k2 j0 j1 j2 p0 p1 p2 q0 q1 q2 fp fq lp lq lj lk FB x0 x1 x2 fx lx BW1 KX1 HJ
    obtain ⟨YX, hYX⟩ : ∃ V, V = Y.setCell ⟨w1.heap.size, 2, none⟩ (.int .i64 0) := ⟨_, rfl⟩
    have HBX : Hid (Below w1.heap.size w1 YX) := by rw [hYX]; exact HBY.out.setCell (Nat.le_refl _) _
    have KXX : Hid (Blk YX w1.heap.size #[.int .i64 m, .int .i64 g, .int .i64 0] 41) := by
      have := KXY.out.set 2 (.int .i64 0)
      rw [hYX]; simpa [Hid] using this
    obtain ⟨j0, j1, j2⟩ := (HS1.out Y HBY.out).1.1.2.three
    obtain ⟨x0, x1, x2⟩ := KXY.out.three
    have fx := KXY.out.free
    have lx := KXY.out.lt
    have lj := (HS1.out Y HBY.out).1.1.2.lt
    have hjx : ¬ w.heap.size + 1 = w1.heap.size := by omega
    have hm1b : (m == 1) = false := by simpa using hm1
    have hkq' : 0 < q := by omega
    have HNA : Hid (N = tryAt m upto A 0 0 true) := HNA0.out
    clear hm1 HNA0
    go_wp2_with fail
    rw [← hYX]
    clear hYX j0 j1 j2 x0 x1 x2 fx lx lj
    obtain ⟨Z0, hZ0⟩ : ∃ x, x = YX := ⟨YX, rfl⟩
    subst hZ0
    have HBZ := HBX
    have KXZ := KXX
    obtain ⟨b, off, sa, sc, e1, hbl, _, r0, hsv⟩ := (HS1.out Z0 HBZ.out).2.at (k := 0) (by rw [← HQ.out]; exact hkq')
    obtain ⟨b2, off2, pa, pc, e2, hbl2, _, y0, y1, y2, hps⟩ := hsv.at (k := 0) (by first | exact hjl' | exact (HAR.out 0 (by rw [← HQ.out]; exact hkq')).1)
    obtain ⟨x, hx⟩ : ∃ x, x = frAt (grAt A 0) 0 := ⟨_, rfl⟩
    obtain ⟨nL, hnL⟩ : ∃ n, n = (grAt A 0).length := ⟨_, rfl⟩
    have hjl : 0 < nL := by rw [hnL]; first | exact hjl' | exact (HAR.out 0 (by rw [← HQ.out]; exact hkq')).1
    rw [← hx] at y0 y1 y2 hps
    obtain ⟨pn, hpn⟩ : ∃ n, n = x.parts.length := ⟨_, rfl⟩
    rw [← hpn] at y2 hps
    clear hpn
    rw [← hnL] at r0
    have HXE : Hid (x = frAt (grAt A 0) 0) := hx
    have HPS : Hid (StrsIn (fun b => (b < w.heap.size ∨ w.heap.size + 4 ≤ b) ∧ b < w1.heap.size) Z0 (.slice pa pn pc) x.parts) := hps
    have hkqi : (0 : Int) < (q : Int) := by omega
    have hjn : (0 : Int) < (nL : Int) := by omega
    have hjz : ¬ nL = 0 := by omega
    simp only [Nat.add_zero] at r0
    simp only [Nat.zero_mul, Nat.add_zero] at y0 y1 y2
    obtain ⟨x0, x1, x2⟩ := KXZ.out.three
    have lx := KXZ.out.lt
    have hbz : b < Z0.heap.size := hbl
    have hbz2 : b2 < Z0.heap.size := hbl2
    subst e1 e2
    clear hsv hps hx hnL
    go_wp2_with fail
    refine region_chainG (by kernel_rfl) (by kernel_rfl) [.quiet (.slice (some ⟨b, off, none⟩) q vc) 2, .quiet (.int .i64 0) 2, .quiet (.pointer (some ⟨b, off, none⟩)) 2, .quiet (.pointer (some ⟨b, off, none⟩)) 2, .quiet (.slice (some ⟨b2, off2, none⟩) nL sc) 2, .quiet (.pointer (some ⟨w1.heap.size, 2, none⟩)) 2, .quiet (.int .i64 0) 2, .quiet (.pointer (some ⟨b2, off2, none⟩)) 2, .quiet (.agg #[.int .i64 x.time, .bool x.key, .slice pa pn pc]) 2, .step 0, .step 1] [9, 10] (by kernel_rfl)
      (fun s r w' => match s with
        | 0 => Below Z0.heap.size Z0 w'
        | 1 => ∃ p, Z0.heap.size ≤ p ∧ Below Z0.heap.size Z0 w' ∧ Blk w' p #[.int .i64 0, .bool false, .slice none 0 0] 39 ∧ r 0 = .pointer (some ⟨p, 0, none⟩)
        | _ => ∃ p, Z0.heap.size ≤ p ∧ Below Z0.heap.size Z0 w' ∧ Blk w' p #[.int .i64 x.time, .bool x.key, .slice pa pn pc] 39 ∧ r 0 = .pointer (some ⟨p, 0, none⟩)
        ) ((Below.refl _ Z0).drew) ?step ?fin
    case step =>
      intro i o ho a' w' s r hI hfree hvals
      have hB : Below Z0.heap.size Z0 w' := by
        match s, hI with
        | 0, hI => exact hI
        | 1, ⟨_, _, hI, _⟩ => exact hI
        | n + 2, ⟨_, _, hI, _⟩ => exact hI
      have z0 := (hB.cell (p := ⟨b, off, none⟩) hbz).trans r0
      have z1 := (hB.cell (p := ⟨b2, off2, none⟩) hbz2).trans y0
      have z2 := (hB.cell (p := ⟨b2, off2 + 1, none⟩) hbz2).trans y1
      have z3 := (hB.cell (p := ⟨b2, off2 + 2, none⟩) hbz2).trans y2
      have z4 := (hB.cell (p := ⟨w1.heap.size, 2, none⟩) lx).trans x2
      match i, ho with
      | 0, ho =>
        simp at ho; subst ho
        have e10 : a'.eval (.tmp 10) = .slice (some ⟨b, off, none⟩) q vc := (hfree 10 (by kernel_rfl)).trans rfl
        show s ≤ 2 → _
        intro hs
        refine .inl ⟨rfl, ?_⟩
        generalize a'.eval = ρ at *
        simp [execOp, go_sem, e10]
      | 1, ho =>
        simp at ho; subst ho
        have e14 : a'.eval (.tmp 14) = .int .i64 0 := (hfree 14 (by kernel_rfl)).trans rfl
        show s ≤ 2 → _
        intro hs
        refine .inl ⟨rfl, ?_⟩
        generalize a'.eval = ρ at *
        simp [execOp, go_sem, e14]
      | 2, ho =>
        simp at ho; subst ho
        have e76 : a'.eval (.tmp 76) = .slice (some ⟨b, off, none⟩) q vc := hvals 0 _ _ (by kernel_rfl) rfl rfl
        have e77 : a'.eval (.tmp 77) = .int .i64 0 := hvals 1 _ _ (by kernel_rfl) rfl rfl
        show s ≤ 2 → _
        intro hs
        refine .inl ⟨rfl, ?_⟩
        generalize a'.eval = ρ at *
        simp [execOp, go_sem, e76, e77, hq0]
      | 3, ho =>
        simp at ho; subst ho
        have e78 : a'.eval (.tmp 78) = .pointer (some ⟨b, off, none⟩) := hvals 2 _ _ (by kernel_rfl) rfl rfl
        show s ≤ 2 → _
        intro hs
        refine .inl ⟨rfl, ?_⟩
        generalize a'.eval = ρ at *
        simp [execOp, go_sem, e78]
      | 4, ho =>
        simp at ho; subst ho
        have e79 : a'.eval (.tmp 79) = .pointer (some ⟨b, off, none⟩) := hvals 3 _ _ (by kernel_rfl) rfl rfl
        show s ≤ 2 → _
        intro hs
        refine .inl ⟨rfl, ?_⟩
        generalize a'.eval = ρ at *
        simp [execOp, go_sem, e79, z0]
      | 5, ho =>
        simp at ho; subst ho
        have e12 : a'.eval (.tmp 12) = .pointer (some ⟨w1.heap.size, 0, none⟩) := (hfree 12 (by kernel_rfl)).trans rfl
        show s ≤ 2 → _
        intro hs
        refine .inl ⟨rfl, ?_⟩
        generalize a'.eval = ρ at *
        simp [execOp, go_sem, e12]
      | 6, ho =>
        simp at ho; subst ho
        have e81 : a'.eval (.tmp 81) = .pointer (some ⟨w1.heap.size, 2, none⟩) := hvals 5 _ _ (by kernel_rfl) rfl rfl
        show s ≤ 2 → _
        intro hs
        refine .inl ⟨rfl, ?_⟩
        generalize a'.eval = ρ at *
        simp [execOp, go_sem, e81, z4]
      | 7, ho =>
        simp at ho; subst ho
        have e80 : a'.eval (.tmp 80) = .slice (some ⟨b2, off2, none⟩) nL sc := hvals 4 _ _ (by kernel_rfl) rfl rfl
        have e82 : a'.eval (.tmp 82) = .int .i64 0 := hvals 6 _ _ (by kernel_rfl) rfl rfl
        show s ≤ 2 → _
        intro hs
        refine .inl ⟨rfl, ?_⟩
        generalize a'.eval = ρ at *
        simp [execOp, go_sem, e80, e82, hjz]
      | 8, ho =>
        simp at ho; subst ho
        have e83 : a'.eval (.tmp 83) = .pointer (some ⟨b2, off2, none⟩) := hvals 7 _ _ (by kernel_rfl) rfl rfl
        show s ≤ 2 → _
        intro hs
        refine .inl ⟨rfl, ?_⟩
        generalize a'.eval = ρ at *
        simp [execOp, go_sem, e83, z1, z2, z3]
      | 9, ho =>
        simp at ho; subst ho
        show s = 0 → _ ∧ Oper.wp _ _ _ _ _ _
        intro hs
        subst hs
        refine ⟨rfl, ?_⟩
        have hI0 : Below Z0.heap.size Z0 w' := hI
        refine oper_wp_ok (v := .pointer (some ⟨w'.heap.size, 0, none⟩)) (w' := w'.alloc (.cells #[.int .i64 0, .bool false, .slice none 0 0] 39)) ?_ ⟨_, rfl, w'.heap.size, hI0.size, hI0.alloc hI0.size _, Blk.new _ _ _, updR_at _ _ _⟩
        generalize a'.eval = ρ at *
        simp [execOp, go_sem]
      | 10, ho =>
        simp at ho; subst ho
        have e15 : a'.eval (.tmp 15) = r 0 := hvals 9 _ _ (by kernel_rfl) rfl rfl
        have e84 : a'.eval (.tmp 84) = .agg #[.int .i64 x.time, .bool x.key, .slice pa pn pc] := hvals 8 _ _ (by kernel_rfl) rfl rfl
        show s = 1 → _ ∧ Oper.wp _ _ _ _ _ _
        intro hs
        subst hs
        refine ⟨rfl, ?_⟩
        obtain ⟨p, hp, hB2, hblk, hr⟩ := hI
        rw [hr] at e15
        obtain ⟨t0, t1, t2⟩ := hblk.three
        have fr := hblk.free
        refine oper_wp_skip (w' := ((w'.setCell ⟨p, 0, none⟩ (.int .i64 x.time)).setCell ⟨p, 1, none⟩ (.bool x.key)).setCell ⟨p, 2, none⟩ (.slice pa pn pc)) ?_ ⟨_, rfl, p, hp, ?_, ?_, by rw [updR_ne (by omega)]; exact hr⟩
        · generalize a'.eval = ρ at *
          simp [execOp, go_sem, e15, e84, t0, t1, t2, fr]
        · exact ((hB2.setCell hp _).setCell hp _).setCell hp _
        · exact ((hblk.set 0 (.int .i64 x.time)).set 1 (.bool x.key)).set 2 (.slice pa pn pc)
    case fin =>
      rintro r Y2 ⟨p, hp, bz, KF2', hr⟩
      simp only [putC, Ck.out, hr, Act.put, List.setIfInBounds_toArray, List.set_cons_succ, List.set_cons_zero]
      have hps2 := hp
      have HB2 : Hid (Below w1.heap.size w1 Y2) := HBZ.out.trans (bz.mono HBZ.out.size)
      have KX2 : Hid (Blk Y2 w1.heap.size #[.int .i64 m, .int .i64 g, .int .i64 0] 41) := KXZ.out.below bz KXZ.out.lt
      have KF2 : Hid (Blk Y2 p #[.int .i64 x.time, .bool x.key, .slice pa pn pc] 39) := KF2'
      have HPQ : Hid (StrsIn (fun b => (b < w.heap.size ∨ w.heap.size + 4 ≤ b) ∧ b < w1.heap.size) Y2 (.slice pa pn pc) x.parts) := HPS.out.below bz
      have HPR : Hid (∀ V1 V2 : World, (∀ c, c ≠ w1.heap.size → V1.heap[c]? = Y2.heap[c]?) → V1.heap.size = Y2.heap.size → (∀ c, c ≠ w.heap.size + 1 + 1 → c ≠ w.heap.size + 1 + 1 + 1 → V2.heap[c]? = V1.heap[c]?) → V2.heap.size = V1.heap.size → StrsIn (fun _ => True) V2 (.slice pa pn pc) x.parts) := fun V1 V2 h1 h2 h3 h4 => HPQ.out.to ⟨by omega, fun c _ hS => by rw [h3 c (by omega) (by omega), h1 c (by omega)]⟩ (fun _ _ _ => trivial)
      have lz := KXZ.out.lt
      have hpw : w1.heap.size < p := by omega
      clear bz HPS r0 lx KF2' hps2 hr y0 y1 y2 x0 x1 x2
      have FB := HS1.out Y2 HB2.out
      obtain ⟨k0, k1, k2⟩ := FB.1.1.1.three
      obtain ⟨j0, j1, j2⟩ := FB.1.1.2.three
      obtain ⟨p0, p1, p2⟩ := FB.1.2.1.1.three
      obtain ⟨q0, q1, q2⟩ := FB.1.2.1.2.three
      have fp := FB.1.2.1.1.free
      have fq := FB.1.2.1.2.free
      have lp := FB.1.2.1.1.lt
      have lq := FB.1.2.1.2.lt
      have lj := FB.1.1.2.lt
      have lk := FB.1.1.1.lt
      obtain ⟨x0, x1, x2⟩ := KX2.out.three
      obtain ⟨y0, y1, y2⟩ := KF2.out.three
      have fx := KX2.out.free
      have lx := KX2.out.lt
      have ly := KF2.out.lt
      by_cases h3 : m = 3 ∧ upto < x.time
      · have HNN : Hid (N = none) := by show _ = _; rw [HNA.out]; unfold tryAt; rw [← HXE.out, if_pos h3]
        have h31 : (m == 3) = true := by simpa using h3.1
        have h32 : upto < x.time := h3.2
        clear h3 FB
        go_wp2_with fail
        obtain ⟨n1, n2, n3⟩ := HNONE.out _ _ HB2.out rfl
        obtain ⟨u0, u1, u2⟩ := n1.three
        obtain ⟨v0, v1, v2⟩ := n2.three
        rw [HNN.out]
        exact bodyPost_ret (v := .tuple #[.agg #[.int .i64 m, .int .i64 g, .int .i64 f], .agg #[.int .i64 0, .bool false, .slice none 0 0], .bool false, .bool false]) (by simp [results, Try.results25, go_sem, u0, u1, u2, v0, v1, v2]) rfl ⟨m, g, f, Fr.zero, .slice none 0 0, false, false, rfl, StrsIn.nil _ _, ⟨rfl, rfl, rfl, rfl, rfl, rfl⟩, n3⟩
      · have HNS : Hid (N = some (0, 0, true)) := by show _ = _; rw [HNA.out]; unfold tryAt; rw [← HXE.out, if_neg h3]
        have hcond : (m == 3) = false ∨ ((m == 3) = true ∧ ¬ upto < x.time) := by
          by_cases h : m = 3
          · exact .inr ⟨by simpa using h, fun h' => h3 ⟨h, h'⟩⟩
          · exact .inl (by simpa using h)
        obtain ⟨V1, hV1⟩ : ∃ V, V = (Y2.setCell ⟨w1.heap.size, 1, none⟩ (.int .i64 first)).setCell ⟨w1.heap.size, 2, none⟩ (.int .i64 1) := ⟨_, rfl⟩
        have BV1 : Hid (Below w1.heap.size w1 V1) := by rw [hV1]; exact (HB2.out.setCell (Nat.le_refl _) _).setCell (Nat.le_refl _) _
        have KV1 : Hid (Blk V1 w1.heap.size #[.int .i64 m, .int .i64 first, .int .i64 1] 41) := by
          have := (KX2.out.set 1 (.int .i64 first)).set 2 (.int .i64 1)
          rw [hV1]; simpa [Hid] using this
        have hV1o : ∀ c, c ≠ w1.heap.size → V1.heap[c]? = Y2.heap[c]? := fun c hc => by rw [hV1, Below.heap_setCell _ _ _ _ (by exact hc), Below.heap_setCell _ _ _ _ (by exact hc)]
        have hV1s : V1.heap.size = Y2.heap.size := by rw [hV1]; simp
        have KFV : Hid (Blk V1 p #[.int .i64 x.time, .bool x.key, .slice pa pn pc] 39) := (hV1o _ (by omega)).trans KF2.out
        have HPZ : Hid (∀ V2 : World, (∀ c, c ≠ w.heap.size + 1 + 1 → c ≠ w.heap.size + 1 + 1 + 1 → V2.heap[c]? = V1.heap[c]?) → V2.heap.size = V1.heap.size → StrsIn (fun _ => True) V2 (.slice pa pn pc) x.parts) := fun V2 h1 h2 => HPR.out V1 V2 hV1o hV1s h1 h2
        clear h3 FB hV1o hV1s HPR HPQ
        go_upto_region 17 with fail
        go_cut [93] (fun s93 wc => s93 = .bool false ∧ wc = Y2)
        case first =>
          rcases hcond with hcd | ⟨hcd, hcd2⟩
          all_goals
            go_wp2_with fail
            go_meet
            case rel => exact ⟨rfl, rfl⟩
        case rest =>
          obtain ⟨rfl, rfl⟩ := hcut
          go_wp2_with fail
          rw [← hV1]
          clear hV1 hcond k0 k1 k2 j0 j1 j2 p0 p1 p2 q0 q1 q2 fp fq lj lk x0 x1 x2 y0 y1 y2 fx lx ly
          have F1 := HS1.out V1 BV1.out
          have BA : Hid (Blk V1 (w.heap.size + 1 + 1) #[.int .i64 0, .int .i64 0, .int .i64 0] 41) := F1.1.2.1.1
          have BI : Hid (Blk V1 (w.heap.size + 1 + 1 + 1) #[.int .i64 0, .bool false, .slice none 0 0] 39) := F1.1.2.1.2
          have BW : Hid (Below w.heap.size w V1) := F1.1.2.2
          have hn1 : ¬ w1.heap.size = w.heap.size + 1 + 1 := by omega
          have hn2 : ¬ w1.heap.size = w.heap.size + 1 + 1 + 1 := by omega
          have hn3 : ¬ p = w.heap.size + 1 + 1 := by omega
          have hn4 : ¬ p = w.heap.size + 1 + 1 + 1 := by omega
          clear F1
          obtain ⟨EW, hEW⟩ : ∃ E : World → Prop, E = fun V => (∀ c, c ≠ w.heap.size + 1 + 1 → c ≠ w.heap.size + 1 + 1 + 1 → V.heap[c]? = V1.heap[c]?) ∧ V.heap.size = V1.heap.size ∧ Below w.heap.size w V := ⟨_, rfl⟩
          refine region_chainG (by kernel_rfl) (by kernel_rfl) [.quiet (.agg #[.int .i64 m, .int .i64 first, .int .i64 1]) 4, .quiet (.agg #[.int .i64 x.time, .bool x.key, .slice pa pn pc]) 4, .quiet (.bool true) 4, .step 0, .step 1, .step 2, .step 3] [3, 4, 5, 6] (by kernel_rfl)
            (fun s r w' => match s with
              | 0 => EW w' ∧ Blk w' (w.heap.size + 1 + 1) #[.int .i64 0, .int .i64 0, .int .i64 0] 41 ∧ Blk w' (w.heap.size + 1 + 1 + 1) #[.int .i64 0, .bool false, .slice none 0 0] 39
              | 1 => EW w' ∧ Blk w' (w.heap.size + 1 + 1) #[.int .i64 m, .int .i64 first, .int .i64 1] 41 ∧ Blk w' (w.heap.size + 1 + 1 + 1) #[.int .i64 0, .bool false, .slice none 0 0] 39
              | 2 => EW w' ∧ Blk w' (w.heap.size + 1 + 1) #[.int .i64 m, .int .i64 first, .int .i64 1] 41 ∧ Blk w' (w.heap.size + 1 + 1 + 1) #[.int .i64 x.time, .bool x.key, .slice pa pn pc] 39
              | 3 => EW w' ∧ Blk w' (w.heap.size + 1 + 1) #[.int .i64 m, .int .i64 first, .int .i64 1] 41 ∧ Blk w' (w.heap.size + 1 + 1 + 1) #[.int .i64 x.time, .bool x.key, .slice pa pn pc] 39 ∧ r 2 = .bool true
              | _ => EW w' ∧ Blk w' (w.heap.size + 1 + 1) #[.int .i64 m, .int .i64 first, .int .i64 1] 41 ∧ Blk w' (w.heap.size + 1 + 1 + 1) #[.int .i64 x.time, .bool x.key, .slice pa pn pc] 39 ∧ r 2 = .bool true ∧ r 3 = .bool true
              ) (by rw [hEW]; exact ⟨⟨fun c _ _ => rfl, rfl, BW.out.drew⟩, BA.out.drew, BI.out.drew⟩) ?step ?fin
          case step =>
            intro i o ho a' w' s r hI hfree hvals
            have hE : EW w' := by
              match s, hI with
              | 0, hI => exact hI.1
              | 1, hI => exact hI.1
              | 2, hI => exact hI.1
              | 3, hI => exact hI.1
              | n + 4, hI => exact hI.1
            rw [hEW] at hE
            have kx : Blk w' w1.heap.size #[.int .i64 m, .int .i64 first, .int .i64 1] 41 := (hE.1 _ hn1 hn2).trans KV1.out
            have kf : Blk w' p #[.int .i64 x.time, .bool x.key, .slice pa pn pc] 39 := (hE.1 _ hn3 hn4).trans KFV.out
            obtain ⟨a0, a1, a2⟩ := kx.three
            obtain ⟨b0, b1, b2⟩ := kf.three
            match i, ho with
            | 0, ho =>
              simp at ho; subst ho
              have e12 : a'.eval (.tmp 12) = .pointer (some ⟨w1.heap.size, 0, none⟩) := (hfree 12 (by kernel_rfl)).trans rfl
              show s ≤ 4 → _
              intro hs
              refine .inl ⟨rfl, ?_⟩
              generalize a'.eval = ρ at *
              simp [execOp, go_sem, e12, a0, a1, a2]
            | 1, ho =>
              simp at ho; subst ho
              have e15 : a'.eval (.tmp 15) = .pointer (some ⟨p, 0, none⟩) := (hfree 15 (by kernel_rfl)).trans rfl
              show s ≤ 4 → _
              intro hs
              refine .inl ⟨rfl, ?_⟩
              generalize a'.eval = ρ at *
              simp [execOp, go_sem, e15, b0, b1, b2]
            | 2, ho =>
              simp at ho; subst ho
              have e13 : a'.eval (.tmp 13) = .bool true := (hfree 13 (by kernel_rfl)).trans rfl
              show s ≤ 4 → _
              intro hs
              refine .inl ⟨rfl, ?_⟩
              generalize a'.eval = ρ at *
              simp [execOp, go_sem, e13]
            | 3, ho =>
              simp at ho; subst ho
              have e6 : a'.eval (.tmp 6) = .pointer (some ⟨w.heap.size + 1 + 1, 0, none⟩) := (hfree 6 (by kernel_rfl)).trans rfl
              have e105 : a'.eval (.tmp 105) = .agg #[.int .i64 m, .int .i64 first, .int .i64 1] := hvals 0 _ _ (by kernel_rfl) rfl rfl
              show s = 0 → _ ∧ Oper.wp _ _ _ _ _ _
              intro hs
              subst hs
              refine ⟨rfl, ?_⟩
              obtain ⟨_, c1, c2⟩ := hI
              obtain ⟨t0, t1, t2⟩ := c1.three
              have fr := c1.free
              refine oper_wp_skip (w' := ((w'.setCell ⟨w.heap.size + 1 + 1, 0, none⟩ (.int .i64 m)).setCell ⟨w.heap.size + 1 + 1, 1, none⟩ (.int .i64 first)).setCell ⟨w.heap.size + 1 + 1, 2, none⟩ (.int .i64 1)) ?_ ⟨_, rfl, ?_, ?_, ?_⟩
              · generalize a'.eval = ρ at *
                simp [execOp, go_sem, e6, e105, t0, t1, t2, fr]
              · rw [hEW]
                refine ⟨fun c h1 h2 => by rw [Below.heap_setCell _ _ _ _ (by exact h1), Below.heap_setCell _ _ _ _ (by exact h1), Below.heap_setCell _ _ _ _ (by exact h1)]; exact hE.1 c h1 h2, by simp; exact hE.2.1, ?_⟩
                exact ((hE.2.2.setCell (by show _ ≤ w.heap.size + 1 + 1; omega) _).setCell (by show _ ≤ w.heap.size + 1 + 1; omega) _).setCell (by show _ ≤ w.heap.size + 1 + 1; omega) _
              · exact ((c1.set 0 (.int .i64 m)).set 1 (.int .i64 first)).set 2 (.int .i64 1)
              · exact ((c2.other (a := ⟨w.heap.size + 1 + 1, 0, none⟩) (by show w.heap.size + 1 + 1 + 1 ≠ w.heap.size + 1 + 1; omega) _).other (a := ⟨w.heap.size + 1 + 1, 1, none⟩) (by show w.heap.size + 1 + 1 + 1 ≠ w.heap.size + 1 + 1; omega) _).other (a := ⟨w.heap.size + 1 + 1, 2, none⟩) (by show w.heap.size + 1 + 1 + 1 ≠ w.heap.size + 1 + 1; omega) _
            | 4, ho =>
              simp at ho; subst ho
              have e7 : a'.eval (.tmp 7) = .pointer (some ⟨w.heap.size + 1 + 1 + 1, 0, none⟩) := (hfree 7 (by kernel_rfl)).trans rfl
              have e106 : a'.eval (.tmp 106) = .agg #[.int .i64 x.time, .bool x.key, .slice pa pn pc] := hvals 1 _ _ (by kernel_rfl) rfl rfl
              show s = 1 → _ ∧ Oper.wp _ _ _ _ _ _
              intro hs
              subst hs
              refine ⟨rfl, ?_⟩
              obtain ⟨_, c1, c2⟩ := hI
              obtain ⟨t0, t1, t2⟩ := c2.three
              have fr := c2.free
              refine oper_wp_skip (w' := ((w'.setCell ⟨w.heap.size + 1 + 1 + 1, 0, none⟩ (.int .i64 x.time)).setCell ⟨w.heap.size + 1 + 1 + 1, 1, none⟩ (.bool x.key)).setCell ⟨w.heap.size + 1 + 1 + 1, 2, none⟩ (.slice pa pn pc)) ?_ ⟨_, rfl, ?_, ?_, ?_⟩
              · generalize a'.eval = ρ at *
                simp [execOp, go_sem, e7, e106, t0, t1, t2, fr]
              · rw [hEW]
                refine ⟨fun c h1 h2 => by rw [Below.heap_setCell _ _ _ _ (by exact h2), Below.heap_setCell _ _ _ _ (by exact h2), Below.heap_setCell _ _ _ _ (by exact h2)]; exact hE.1 c h1 h2, by simp; exact hE.2.1, ?_⟩
                exact ((hE.2.2.setCell (by show _ ≤ w.heap.size + 1 + 1 + 1; omega) _).setCell (by show _ ≤ w.heap.size + 1 + 1 + 1; omega) _).setCell (by show _ ≤ w.heap.size + 1 + 1 + 1; omega) _
              · exact ((c1.other (a := ⟨w.heap.size + 1 + 1 + 1, 0, none⟩) (by show w.heap.size + 1 + 1 ≠ w.heap.size + 1 + 1 + 1; omega) _).other (a := ⟨w.heap.size + 1 + 1 + 1, 1, none⟩) (by show w.heap.size + 1 + 1 ≠ w.heap.size + 1 + 1 + 1; omega) _).other (a := ⟨w.heap.size + 1 + 1 + 1, 2, none⟩) (by show w.heap.size + 1 + 1 ≠ w.heap.size + 1 + 1 + 1; omega) _
              · exact ((c2.set 0 (.int .i64 x.time)).set 1 (.bool x.key)).set 2 (.slice pa pn pc)
            | 5, ho =>
              simp at ho; subst ho
              have ec0 : a'.eval (.const (.bool true)) = .bool true := rfl
              show s = 2 → _ ∧ Oper.wp _ _ _ _ _ _
              intro hs
              subst hs
              refine ⟨rfl, ?_⟩
              obtain ⟨c0, c1, c2⟩ := hI
              refine oper_wp_ok (v := .bool true) (w' := w') ?_ ⟨_, rfl, c0, c1, c2, updR_at _ _ _⟩
              generalize a'.eval = ρ at *
              simp [execOp, go_sem, ec0]
            | 6, ho =>
              simp at ho; subst ho
              have e107 : a'.eval (.tmp 107) = .bool true := hvals 2 _ _ (by kernel_rfl) rfl rfl
              show s = 3 → _ ∧ Oper.wp _ _ _ _ _ _
              intro hs
              subst hs
              refine ⟨rfl, ?_⟩
              obtain ⟨c0, c1, c2, c3⟩ := hI
              refine oper_wp_ok (v := .bool true) (w' := w') ?_ ⟨_, rfl, c0, c1, c2, by rw [updR_ne (by omega)]; exact c3, updR_at _ _ _⟩
              generalize a'.eval = ρ at *
              simp [execOp, go_sem, e107]
          case fin =>
            rintro r V2 ⟨d0, d1, d2, d3, d4⟩
            simp only [putC, Ck.out, d3, d4, Act.put, List.setIfInBounds_toArray, List.set_cons_succ, List.set_cons_zero]
            rw [hEW] at d0
            have HPV : Hid (StrsIn (fun _ => True) V2 (.slice pa pn pc) x.parts) := HPZ.out V2 d0.1 d0.2.1
            have BV2 : Hid (Below w.heap.size w V2) := d0.2.2
            obtain ⟨u0, u1, u2⟩ := d1.three
            obtain ⟨v0, v1, v2⟩ := d2.three
            clear d0 d1 d2 hEW HPZ BA BI BW KV1 KFV BV1
            go_wp2_with fail
            rw [HNS.out]
            exact bodyPost_ret (v := .tuple #[.agg #[.int .i64 m, .int .i64 first, .int .i64 1], .agg #[.int .i64 x.time, .bool x.key, .slice pa pn pc], .bool true, .bool true]) (by simp [results, Try.results25, go_sem, u0, u1, u2, v0, v1, v2]) rfl ⟨m, first, 1, x, .slice pa pn pc, true, true, rfl, HPV.out, ⟨rfl, by simp, by simp, HXE.out, rfl, rfl⟩, BV2.out⟩

end Go.Proofs.Ytnpaejknoipicae

namespace Go.Proofs.Ytnpaejknoipicae
open Go.RowKit Go.Sort

set_option maxHeartbeats 16000000 in
set_option maxRecDepth 100000 in
theorem refNextOf_end (first : Int) (gv ov : Value) (L : List (List Fr)) (O : List Fr) (m g f upto : Int) (w : World) (hg : GrsIn (fun _ => True) w gv L) (ho : FrsIn (fun _ => True) w ov O) (hs : stchk first L O = 0) (hc : curE m g f = 0) (k0 : Nat) (hm2 : ¬ m = 2) (hgk : g - first = k0) (hk0' : k0 < (allG L O).length) (hfl' : f ≤ ((grAt (allG L O) k0).length : Int)) (hfc' : f = ((grAt (allG L O) k0).length : Int)) (hl' : k0 + 1 = (allG L O).length) :
    Calls Try.prog 25 #[.agg #[.int .i64 first, gv, ov], .agg #[.int .i64 m, .int .i64 g, .int .i64 f], .int .i64 upto] w (NxPost none m g f first (allG L O) w) := by
  obtain ⟨c1, c2, c3, c4, c5, c6⟩ := curE_zero.1 hc
  obtain ⟨s1, s2, s3, _⟩ := stchk_zero.1 hs
  obtain ⟨A, hA⟩ : ∃ A, A = allG L O := ⟨_, rfl⟩
  have hq6 : A.length ≤ 6 := by rw [hA]; exact allG_len L O s3
  have HAR : Hid (∀ k, k < A.length → 0 < (grAt A k).length ∧ (grAt A k).length ≤ 6) := fun k hk => by
    have := gchk_first (by rw [hA]; exact allG_right hs _ (grAt_mem (by rw [← hA]; exact hk)) : gchk (grAt A k) = 0)
    exact ⟨this.1, this.2.1⟩
  obtain ⟨q, hq⟩ : ∃ q, q = A.length := ⟨_, rfl⟩
  have HQ : Hid (q = A.length) := hq
  rw [← hq] at hq6
  obtain ⟨d, hd⟩ : ∃ d, d = g - first := ⟨_, rfl⟩
  obtain ⟨N, hN⟩ : ∃ N : Option (Nat × Nat × Bool), N = none := ⟨_, rfl⟩
  have HNA0 : Hid (N = none) := hN
  have HFL : Hid (f ≤ ((grAt A k0).length : Int)) := by rw [hA]; exact hfl'
  have HFC : Hid (f = ((grAt A k0).length : Int)) := by rw [hA]; exact hfc'
  have hk0q : k0 < q := by rw [hq, hA]; exact hk0'
  have hdk : d = (k0 : Int) := by omega
  have hq0 : ¬ q = 0 := by omega
  have HKQ : Hid (k0 + 1 = q) := by rw [hq, hA]; exact hl'
  clear hl'
  rw [← hA, ← hN]
  clear hN hfl' hfc' hk0' hgk
  have HALL : Hid (∀ U : World, Below w.heap.size w U → Calls Try.prog 16 #[.agg #[.int .i64 first, gv, ov]] U fun e w' => ∃ a c, e = .returned (.slice a q c) ∧ Hid (GrsIn (fun b => b < w.heap.size ∨ U.heap.size ≤ b) w' (.slice a q c) A) ∧ Below U.heap.size U w') := fun U hU => by
    refine (allOf_in (fun b => b < w.heap.size) first gv ov L O U ((hg.mono fun b h _ => h).below hU) ((ho.mono fun b h _ => h).below hU) (by omega)).mono ?_
    rintro e w' ⟨v', rfl, h4, h5⟩
    rw [← hA] at h4
    obtain ⟨a, c, e, _, _⟩ := h4.len
    rw [← hq] at e
    subst e
    exact ⟨a, c, rfl, h4, h5⟩
  obtain ⟨ga, gc, eg, _, _⟩ := hg.len
  obtain ⟨oa, oc, eo, _, _⟩ := ho.len
  obtain ⟨ln, hln⟩ : ∃ n, n = L.length := ⟨_, rfl⟩
  obtain ⟨lo, hlo⟩ : ∃ n, n = O.length := ⟨_, rfl⟩
  rw [← hln] at eg
  rw [← hlo] at eo
  have hdb : -200000 ≤ d ∧ d ≤ 200000 := by omega
  have hgd : g - first = d := hd.symm
  clear hg ho hs hc hA hq hln hlo s3 hd
  subst eg eo
  go_enter Try.func25, Try.ntmps25
  go_wp2_with fail
  obtain ⟨W0, hW0⟩ : ∃ W0, W0 = (((w.alloc (.cells #[.int .i64 first, .slice ga ln gc, .slice oa lo oc] 36)).alloc (.cells #[.int .i64 m, .int .i64 g, .int .i64 f] 41)).alloc (.cells #[.int .i64 0, .int .i64 0, .int .i64 0] 41)).alloc (.cells #[.int .i64 0, .bool false, .slice none 0 0] 39) := ⟨_, rfl⟩
  have HS0 : Hid (Stay W0 (fun U => (Blk U w.heap.size #[.int .i64 first, .slice ga ln gc, .slice oa lo oc] 36 ∧ Blk U (w.heap.size + 1) #[.int .i64 m, .int .i64 g, .int .i64 f] 41) ∧ (Blk U (w.heap.size + 1 + 1) #[.int .i64 0, .int .i64 0, .int .i64 0] 41 ∧ Blk U (w.heap.size + 1 + 1 + 1) #[.int .i64 0, .bool false, .slice none 0 0] 39) ∧ Below w.heap.size w U)) := by
    have hb : Below w.heap.size w W0 := by rw [hW0]; exact ((((Below.refl _ _).alloc (Nat.le_refl _) _).alloc (by simp) _).alloc (by simp; omega) _).alloc (by simp; omega) _
    have k0 : Blk W0 w.heap.size #[.int .i64 first, .slice ga ln gc, .slice oa lo oc] 36 := by rw [hW0]; exact (((Blk.new _ _ _).alloc _).alloc _).alloc _
    have k1 : Blk W0 (w.heap.size + 1) #[.int .i64 m, .int .i64 g, .int .i64 f] 41 := by
      have := Blk.new (w.alloc (.cells #[.int .i64 first, .slice ga ln gc, .slice oa lo oc] 36)) #[.int .i64 m, .int .i64 g, .int .i64 f] 41
      simp only [World.size_alloc] at this
      rw [hW0]; exact (this.alloc _).alloc _
    have k2 : Blk W0 (w.heap.size + 1 + 1) #[.int .i64 0, .int .i64 0, .int .i64 0] 41 := by
      have := Blk.new ((w.alloc (.cells #[.int .i64 first, .slice ga ln gc, .slice oa lo oc] 36)).alloc (.cells #[.int .i64 m, .int .i64 g, .int .i64 f] 41)) #[.int .i64 0, .int .i64 0, .int .i64 0] 41
      simp only [World.size_alloc] at this
      rw [hW0]; exact this.alloc _
    have k3 : Blk W0 (w.heap.size + 1 + 1 + 1) #[.int .i64 0, .bool false, .slice none 0 0] 39 := by
      have := Blk.newE hW0
      simp only [World.size_alloc] at this
      exact this
    exact (k0.stay.and k1.stay).and ((k2.stay.and k3.stay).and (below_stay hb hb.size))
  have z0 : W0.heap.size = w.heap.size + 4 := by rw [hW0]; simp
  rw [← hW0]
  clear hW0
  refine (HALL.out _ HS0.out.now.2.2).mono ?_
  rintro e w1 ⟨va, vc, rfl, GA, b1⟩
  have HS1 := (((HS0.out.step b1)).and (GA.out.mono (S' := fun b => (b < w.heap.size ∨ w.heap.size + 4 ≤ b) ∧ b < w1.heap.size) (fun b hb h => ⟨h.imp id (fun h => by omega), hb⟩)).stay).hid
  have lw1 : w.heap.size + 1 + 1 + 1 < w1.heap.size := HS1.out.now.1.2.1.2.lt
  clear b1 HS0 HALL GA
  -- none: the cursor as it was
  have HNONE : Hid (∀ (Y V : World), Below w1.heap.size w1 Y → V = (((((Y.setCell ⟨w.heap.size + 1 + 1, 0, none⟩ (.int .i64 m)).setCell ⟨w.heap.size + 1 + 1, 1, none⟩ (.int .i64 g)).setCell ⟨w.heap.size + 1 + 1, 2, none⟩ (.int .i64 f)).setCell ⟨w.heap.size + 1 + 1 + 1, 0, none⟩ (.int .i64 0)).setCell ⟨w.heap.size + 1 + 1 + 1, 1, none⟩ (.bool false)).setCell ⟨w.heap.size + 1 + 1 + 1, 2, none⟩ (.slice none 0 0) → Blk V (w.heap.size + 1 + 1) #[.int .i64 m, .int .i64 g, .int .i64 f] 41 ∧ Blk V (w.heap.size + 1 + 1 + 1) #[.int .i64 0, .bool false, .slice none 0 0] 39 ∧ Below w.heap.size w V) := fun Y V hY hV => by
    obtain ⟨_, h2, h3⟩ := (HS1.out Y hY).1
    obtain ⟨n1, n2, n3, _⟩ := endTwo (by omega) (by omega) (by omega) m g f 0 false (.slice none 0 0) h3 h2.1 h2.2 hV
    exact ⟨n1, n2, n3⟩
  obtain ⟨k0', k1, k2⟩ := HS1.out.now.1.1.1.three
  obtain ⟨j0, j1, j2⟩ := HS1.out.now.1.1.2.three
  obtain ⟨W1, hW1⟩ : ∃ W1, W1 = w1.alloc (.cells #[.int .i64 m, .int .i64 g, .int .i64 f] 41) := ⟨_, rfl⟩
  have BW1 : Hid (Below w1.heap.size w1 W1) := by rw [hW1]; exact (Below.refl _ _).alloc (Nat.le_refl _) _
  have KX1 : Hid (Blk W1 w1.heap.size #[.int .i64 m, .int .i64 g, .int .i64 f] 41) := Blk.newE hW1
  have hmb : (m == 2) = false := by simpa using hm2
  have hqb : ((q : Int) == 0) = false := by simp; omega
  have FB := HS1.out W1 BW1.out
  obtain ⟨k0', k1, k2⟩ := FB.1.1.1.three
  obtain ⟨j0, j1, j2⟩ := FB.1.1.2.three
  obtain ⟨p0, p1, p2⟩ := FB.1.2.1.1.three
  obtain ⟨q0, q1, q2⟩ := FB.1.2.1.2.three
  have fp := FB.1.2.1.1.free
  have fq := FB.1.2.1.2.free
  have lp := FB.1.2.1.1.lt
  have lq := FB.1.2.1.2.lt
  have lj := FB.1.1.2.lt
  have lk := FB.1.1.1.lt
  obtain ⟨x0, x1, x2⟩ := KX1.out.three
  have fx := KX1.out.free
  have lx := KX1.out.lt
  subst hW1
  go_upto_region 7 with fail
  obtain ⟨bq, oq, sa, sc, e1, hbl, _, r0, _⟩ := FB.2.at (k := k0) (by rw [← HQ.out]; exact hk0q)
  obtain ⟨nL, hnL⟩ : ∃ n, n = (grAt A k0).length := ⟨_, rfl⟩
  rw [← hnL] at r0
  have hnf : ¬ (nL : Int) < f := by rw [hnL]; have := HFL.out; omega
  have hki : (k0 : Int) < (q : Int) := by omega
  have HNL : Hid (nL = (grAt A k0).length) := hnL
  subst hdk e1
  clear hnL
  go_cut [52] (fun s52 wc => s52 = .bool false ∧ Hid (Below w1.heap.size w1 wc) ∧ Hid (Blk wc w1.heap.size #[.int .i64 m, .int .i64 g, .int .i64 f] 41))
  case first =>
    go_quiet (fail)
    go_wp2_with fail
    go_meet
    case rel => exact ⟨by simp; omega, below_drewN BW1.out _, KX1.out.drewN _⟩
  case rest =>
    obtain ⟨rfl, HBY, KXY⟩ := hcut
    obtain ⟨Y, hY⟩ : ∃ x, x = wc := ⟨wc, rfl⟩
    subst hY
    clear k0' k1 k2 j0 j1 j2 p0 p1 p2 q0 q1 q2 fp fq lp lq lj lk FB x0 x1 x2 fx lx BW1 KX1 r0 hbl
    have FB := HS1.out Y HBY.out
    obtain ⟨b', off', sa', sc', e1', hbl, _, r0, _⟩ := FB.2.at (k := k0) (by rw [← HQ.out]; exact hk0q)
    injection e1' with e1'
    injection e1' with e1' e2' _
    subst e1' e2'
    rw [← HNL.out] at r0
    obtain ⟨j0, j1, j2⟩ := FB.1.1.2.three
    obtain ⟨x0, x1, x2⟩ := KXY.out.three
    have fx := KXY.out.free
    have lx := KXY.out.lt
    have lj := FB.1.1.2.lt
    have hjx : ¬ w.heap.size + 1 = w1.heap.size := by omega
    clear FB
    have hfn : f = (nL : Int) := by rw [HNL.out]; exact HFC.out
    have hfb : (f == (nL : Int)) = true := by simpa using hfn
    have HNN : Hid (N = none) := HNA0.out
    have hk1q : ((k0 : Int) + 1 == (q : Int)) = true := by have := HKQ.out; simp; omega
    clear hfn HNA0
    go_wp2_with fail
    go_quiet (fail)
    have FB := HS1.out Y HBY.out
    obtain ⟨k0', k1, k2⟩ := FB.1.1.1.three
    obtain ⟨j0, j1, j2⟩ := FB.1.1.2.three
    obtain ⟨p0, p1, p2⟩ := FB.1.2.1.1.three
    obtain ⟨q0, q1, q2⟩ := FB.1.2.1.2.three
    have fp := FB.1.2.1.1.free
    have fq := FB.1.2.1.2.free
    have lp := FB.1.2.1.1.lt
    have lq := FB.1.2.1.2.lt
    have lj := FB.1.1.2.lt
    have lk := FB.1.1.1.lt
    go_wp2_with fail
    obtain ⟨n1, n2, n3⟩ := HNONE.out _ _ ((below_drewN HBY.out nq).setCell (p := ⟨w1.heap.size, 2, none⟩) (Nat.le_refl _) (.int .i64 0)) rfl
    obtain ⟨u0, u1, u2⟩ := n1.three
    obtain ⟨v0, v1, v2⟩ := n2.three
    rw [HNN.out]
    exact bodyPost_ret (v := .tuple #[.agg #[.int .i64 m, .int .i64 g, .int .i64 f], .agg #[.int .i64 0, .bool false, .slice none 0 0], .bool false, .bool false]) (by simp [results, Try.results25, go_sem, u0, u1, u2, v0, v1, v2]) rfl (NxPost.of ⟨m, g, f, Fr.zero, .slice none 0 0, false, false, rfl, StrsIn.nil _ _, ⟨rfl, rfl, rfl, rfl, rfl, rfl⟩, n3⟩)

end Go.Proofs.Ytnpaejknoipicae

namespace Go.Proofs.Ytnpaejknoipicae
open Go.RowKit Go.Sort

set_option maxHeartbeats 16000000 in
set_option maxRecDepth 100000 in
theorem refNextOf_beh (first : Int) (gv ov : Value) (L : List (List Fr)) (O : List Fr) (m g f upto : Int) (w : World) (hg : GrsIn (fun _ => True) w gv L) (ho : FrsIn (fun _ => True) w ov O) (hs : stchk first L O = 0) (hc : curE m g f = 0) (k0 : Nat) (hm2 : ¬ m = 2) (hgk : g - first = k0) (hk0' : k0 < (allG L O).length) (hfl' : f ≤ ((grAt (allG L O) k0).length : Int)) (hfc' : f = ((grAt (allG L O) k0).length : Int)) (hl' : ¬ k0 + 1 = (allG L O).length) :
    Calls Try.prog 25 #[.agg #[.int .i64 first, gv, ov], .agg #[.int .i64 m, .int .i64 g, .int .i64 f], .int .i64 upto] w (NxPost (tryAt m upto (allG L O) (k0 + 1) 0 false) m g f first (allG L O) w) := by
  obtain ⟨c1, c2, c3, c4, c5, c6⟩ := curE_zero.1 hc
  obtain ⟨s1, s2, s3, _⟩ := stchk_zero.1 hs
  obtain ⟨A, hA⟩ : ∃ A, A = allG L O := ⟨_, rfl⟩
  have hq6 : A.length ≤ 6 := by rw [hA]; exact allG_len L O s3
  have HAR : Hid (∀ k, k < A.length → 0 < (grAt A k).length ∧ (grAt A k).length ≤ 6) := fun k hk => by
    have := gchk_first (by rw [hA]; exact allG_right hs _ (grAt_mem (by rw [← hA]; exact hk)) : gchk (grAt A k) = 0)
    exact ⟨this.1, this.2.1⟩
  obtain ⟨q, hq⟩ : ∃ q, q = A.length := ⟨_, rfl⟩
  have HQ : Hid (q = A.length) := hq
  rw [← hq] at hq6
  obtain ⟨d, hd⟩ : ∃ d, d = g - first := ⟨_, rfl⟩
  obtain ⟨N, hN⟩ : ∃ N : Option (Nat × Nat × Bool), N = tryAt m upto A (k0 + 1) 0 false := ⟨_, rfl⟩
  have HNA0 : Hid (N = tryAt m upto A (k0 + 1) 0 false) := hN
  have HFL : Hid (f ≤ ((grAt A k0).length : Int)) := by rw [hA]; exact hfl'
  have HFC : Hid (f = ((grAt A k0).length : Int)) := by rw [hA]; exact hfc'
  have hk0q : k0 < q := by rw [hq, hA]; exact hk0'
  have hdk : d = (k0 : Int) := by omega
  have hq0 : ¬ q = 0 := by omega
  have HKQ : Hid (¬ k0 + 1 = q) := by rw [hq, hA]; exact hl'
  clear hl'
  rw [← hA, ← hN]
  clear hN hfl' hfc' hk0' hgk
  have HALL : Hid (∀ U : World, Below w.heap.size w U → Calls Try.prog 16 #[.agg #[.int .i64 first, gv, ov]] U fun e w' => ∃ a c, e = .returned (.slice a q c) ∧ Hid (GrsIn (fun b => b < w.heap.size ∨ U.heap.size ≤ b) w' (.slice a q c) A) ∧ Below U.heap.size U w') := fun U hU => by
    refine (allOf_in (fun b => b < w.heap.size) first gv ov L O U ((hg.mono fun b h _ => h).below hU) ((ho.mono fun b h _ => h).below hU) (by omega)).mono ?_
    rintro e w' ⟨v', rfl, h4, h5⟩
    rw [← hA] at h4
    obtain ⟨a, c, e, _, _⟩ := h4.len
    rw [← hq] at e
    subst e
    exact ⟨a, c, rfl, h4, h5⟩
  obtain ⟨ga, gc, eg, _, _⟩ := hg.len
  obtain ⟨oa, oc, eo, _, _⟩ := ho.len
  obtain ⟨ln, hln⟩ : ∃ n, n = L.length := ⟨_, rfl⟩
  obtain ⟨lo, hlo⟩ : ∃ n, n = O.length := ⟨_, rfl⟩
  rw [← hln] at eg
  rw [← hlo] at eo
  have hdb : -200000 ≤ d ∧ d ≤ 200000 := by omega
  have hgd : g - first = d := hd.symm
  clear hg ho hs hc hA hq hln hlo s3 hd
  subst eg eo
  go_enter Try.func25, Try.ntmps25
  go_wp2_with fail
  obtain ⟨W0, hW0⟩ : ∃ W0, W0 = (((w.alloc (.cells #[.int .i64 first, .slice ga ln gc, .slice oa lo oc] 36)).alloc (.cells #[.int .i64 m, .int .i64 g, .int .i64 f] 41)).alloc (.cells #[.int .i64 0, .int .i64 0, .int .i64 0] 41)).alloc (.cells #[.int .i64 0, .bool false, .slice none 0 0] 39) := ⟨_, rfl⟩
  have HS0 : Hid (Stay W0 (fun U => (Blk U w.heap.size #[.int .i64 first, .slice ga ln gc, .slice oa lo oc] 36 ∧ Blk U (w.heap.size + 1) #[.int .i64 m, .int .i64 g, .int .i64 f] 41) ∧ (Blk U (w.heap.size + 1 + 1) #[.int .i64 0, .int .i64 0, .int .i64 0] 41 ∧ Blk U (w.heap.size + 1 + 1 + 1) #[.int .i64 0, .bool false, .slice none 0 0] 39) ∧ Below w.heap.size w U)) := by
    have hb : Below w.heap.size w W0 := by rw [hW0]; exact ((((Below.refl _ _).alloc (Nat.le_refl _) _).alloc (by simp) _).alloc (by simp; omega) _).alloc (by simp; omega) _
    have k0 : Blk W0 w.heap.size #[.int .i64 first, .slice ga ln gc, .slice oa lo oc] 36 := by rw [hW0]; exact (((Blk.new _ _ _).alloc _).alloc _).alloc _
    have k1 : Blk W0 (w.heap.size + 1) #[.int .i64 m, .int .i64 g, .int .i64 f] 41 := by
      have := Blk.new (w.alloc (.cells #[.int .i64 first, .slice ga ln gc, .slice oa lo oc] 36)) #[.int .i64 m, .int .i64 g, .int .i64 f] 41
      simp only [World.size_alloc] at this
      rw [hW0]; exact (this.alloc _).alloc _
    have k2 : Blk W0 (w.heap.size + 1 + 1) #[.int .i64 0, .int .i64 0, .int .i64 0] 41 := by
      have := Blk.new ((w.alloc (.cells #[.int .i64 first, .slice ga ln gc, .slice oa lo oc] 36)).alloc (.cells #[.int .i64 m, .int .i64 g, .int .i64 f] 41)) #[.int .i64 0, .int .i64 0, .int .i64 0] 41
      simp only [World.size_alloc] at this
      rw [hW0]; exact this.alloc _
    have k3 : Blk W0 (w.heap.size + 1 + 1 + 1) #[.int .i64 0, .bool false, .slice none 0 0] 39 := by
      have := Blk.newE hW0
      simp only [World.size_alloc] at this
      exact this
    exact (k0.stay.and k1.stay).and ((k2.stay.and k3.stay).and (below_stay hb hb.size))
  have z0 : W0.heap.size = w.heap.size + 4 := by rw [hW0]; simp
  rw [← hW0]
  clear hW0
  refine (HALL.out _ HS0.out.now.2.2).mono ?_
  rintro e w1 ⟨va, vc, rfl, GA, b1⟩
  have HS1 := (((HS0.out.step b1)).and (GA.out.mono (S' := fun b => (b < w.heap.size ∨ w.heap.size + 4 ≤ b) ∧ b < w1.heap.size) (fun b hb h => ⟨h.imp id (fun h => by omega), hb⟩)).stay).hid
  have lw1 : w.heap.size + 1 + 1 + 1 < w1.heap.size := HS1.out.now.1.2.1.2.lt
  clear b1 HS0 HALL GA
  -- none: the cursor as it was
  have HNONE : Hid (∀ (Y V : World), Below w1.heap.size w1 Y → V = (((((Y.setCell ⟨w.heap.size + 1 + 1, 0, none⟩ (.int .i64 m)).setCell ⟨w.heap.size + 1 + 1, 1, none⟩ (.int .i64 g)).setCell ⟨w.heap.size + 1 + 1, 2, none⟩ (.int .i64 f)).setCell ⟨w.heap.size + 1 + 1 + 1, 0, none⟩ (.int .i64 0)).setCell ⟨w.heap.size + 1 + 1 + 1, 1, none⟩ (.bool false)).setCell ⟨w.heap.size + 1 + 1 + 1, 2, none⟩ (.slice none 0 0) → Blk V (w.heap.size + 1 + 1) #[.int .i64 m, .int .i64 g, .int .i64 f] 41 ∧ Blk V (w.heap.size + 1 + 1 + 1) #[.int .i64 0, .bool false, .slice none 0 0] 39 ∧ Below w.heap.size w V) := fun Y V hY hV => by
    obtain ⟨_, h2, h3⟩ := (HS1.out Y hY).1
    obtain ⟨n1, n2, n3, _⟩ := endTwo (by omega) (by omega) (by omega) m g f 0 false (.slice none 0 0) h3 h2.1 h2.2 hV
    exact ⟨n1, n2, n3⟩
  obtain ⟨k0', k1, k2⟩ := HS1.out.now.1.1.1.three
  obtain ⟨j0, j1, j2⟩ := HS1.out.now.1.1.2.three
  obtain ⟨W1, hW1⟩ : ∃ W1, W1 = w1.alloc (.cells #[.int .i64 m, .int .i64 g, .int .i64 f] 41) := ⟨_, rfl⟩
  have BW1 : Hid (Below w1.heap.size w1 W1) := by rw [hW1]; exact (Below.refl _ _).alloc (Nat.le_refl _) _
  have KX1 : Hid (Blk W1 w1.heap.size #[.int .i64 m, .int .i64 g, .int .i64 f] 41) := Blk.newE hW1
  have hmb : (m == 2) = false := by simpa using hm2
  have hqb : ((q : Int) == 0) = false := by simp; omega
  have FB := HS1.out W1 BW1.out
  obtain ⟨k0', k1, k2⟩ := FB.1.1.1.three
  obtain ⟨j0, j1, j2⟩ := FB.1.1.2.three
  obtain ⟨p0, p1, p2⟩ := FB.1.2.1.1.three
  obtain ⟨q0, q1, q2⟩ := FB.1.2.1.2.three
  have fp := FB.1.2.1.1.free
  have fq := FB.1.2.1.2.free
  have lp := FB.1.2.1.1.lt
  have lq := FB.1.2.1.2.lt
  have lj := FB.1.1.2.lt
  have lk := FB.1.1.1.lt
  obtain ⟨x0, x1, x2⟩ := KX1.out.three
  have fx := KX1.out.free
  have lx := KX1.out.lt
  subst hW1
  go_upto_region 7 with fail
  obtain ⟨bq, oq, sa, sc, e1, hbl, _, r0, _⟩ := FB.2.at (k := k0) (by rw [← HQ.out]; exact hk0q)
  obtain ⟨nL, hnL⟩ : ∃ n, n = (grAt A k0).length := ⟨_, rfl⟩
  rw [← hnL] at r0
  have hnf : ¬ (nL : Int) < f := by rw [hnL]; have := HFL.out; omega
  have hki : (k0 : Int) < (q : Int) := by omega
  have HNL : Hid (nL = (grAt A k0).length) := hnL
  subst hdk e1
  clear hnL
  go_cut [52] (fun s52 wc => s52 = .bool false ∧ Hid (Below w1.heap.size w1 wc) ∧ Hid (Blk wc w1.heap.size #[.int .i64 m, .int .i64 g, .int .i64 f] 41))
  case first =>
    go_quiet (fail)
    go_wp2_with fail
    go_meet
    case rel => exact ⟨by simp; omega, below_drewN BW1.out _, KX1.out.drewN _⟩
  case rest =>
    obtain ⟨rfl, HBY, KXY⟩ := hcut
    obtain ⟨Y, hY⟩ : ∃ x, x = wc := ⟨wc, rfl⟩
    subst hY
    clear k0' k1 k2 j0 j1 j2 p0 p1 p2 q0 q1 q2 fp fq lp lq lj lk FB x0 x1 x2 fx lx BW1 KX1 r0 hbl
    have FB := HS1.out Y HBY.out
    obtain ⟨b', off', sa', sc', e1', hbl, _, r0, _⟩ := FB.2.at (k := k0) (by rw [← HQ.out]; exact hk0q)
    injection e1' with e1'
    injection e1' with e1' e2' _
    subst e1' e2'
    rw [← HNL.out] at r0
    obtain ⟨j0, j1, j2⟩ := FB.1.1.2.three
    obtain ⟨x0, x1, x2⟩ := KXY.out.three
    have fx := KXY.out.free
    have lx := KXY.out.lt
    have lj := FB.1.1.2.lt
    have hjx : ¬ w.heap.size + 1 = w1.heap.size := by omega
    clear FB
    have hfn : f = (nL : Int) := by rw [HNL.out]; exact HFC.out
    have hfb : (f == (nL : Int)) = true := by simpa using hfn
    obtain ⟨k, hk⟩ : ∃ k, k = k0 + 1 := ⟨_, rfl⟩
    have hkq' : k < q := by have := HKQ.out; omega
    have hkk : (k0 : Int) + 1 = (k : Int) := by omega
    have hk1q : ((k : Int) == (q : Int)) = false := by simp; omega
    have HNA : Hid (N = tryAt m upto A k 0 false) := by show _ = _; rw [HNA0.out, hk]
    clear hfn HNA0 hk
    go_wp2_with fail
    go_quiet (fail)
    go_wp2_with fail
    obtain ⟨Z0, hZ0⟩ : ∃ V, V = (Y.drewN nq).setCell ⟨w1.heap.size, 2, none⟩ (.int .i64 0) := ⟨_, rfl⟩
    have HBZ : Hid (Below w1.heap.size w1 Z0) := by rw [hZ0]; exact (below_drewN HBY.out nq).setCell (p := ⟨w1.heap.size, 2, none⟩) (Nat.le_refl _) (.int .i64 0)
    have KXZ : Hid (Blk Z0 w1.heap.size #[.int .i64 m, .int .i64 g, .int .i64 0] 41) := by
      have := (KXY.out.drewN nq).set 2 (.int .i64 0)
      rw [hZ0]; simpa [Hid] using this
    rw [← hZ0]
    clear hZ0 j0 j1 j2 x0 x1 x2 fx lx lj r0 hbl HFC HFL hfb hk1q
    obtain ⟨b, off, sa, sc, e1, hbl, _, r0, hsv⟩ := (HS1.out Z0 HBZ.out).2.at (k := k) (by rw [← HQ.out]; exact hkq')
    obtain ⟨b2, off2, pa, pc, e2, hbl2, _, y0, y1, y2, hps⟩ := hsv.at (k := 0) (by first | exact hjl' | exact (HAR.out k (by rw [← HQ.out]; exact hkq')).1)
    obtain ⟨x, hx⟩ : ∃ x, x = frAt (grAt A k) 0 := ⟨_, rfl⟩
    obtain ⟨nL, hnL⟩ : ∃ n, n = (grAt A k).length := ⟨_, rfl⟩
    have hjl : 0 < nL := by rw [hnL]; first | exact hjl' | exact (HAR.out k (by rw [← HQ.out]; exact hkq')).1
    rw [← hx] at y0 y1 y2 hps
    obtain ⟨pn, hpn⟩ : ∃ n, n = x.parts.length := ⟨_, rfl⟩
    rw [← hpn] at y2 hps
    clear hpn
    rw [← hnL] at r0
    have HXE : Hid (x = frAt (grAt A k) 0) := hx
    have HPS : Hid (StrsIn (fun b => (b < w.heap.size ∨ w.heap.size + 4 ≤ b) ∧ b < w1.heap.size) Z0 (.slice pa pn pc) x.parts) := hps
    have hkqi : (k : Int) < (q : Int) := by omega
    have hjn : (0 : Int) < (nL : Int) := by omega
    have hjz : ¬ nL = 0 := by omega
    simp only [Nat.zero_mul, Nat.add_zero] at y0 y1 y2
    obtain ⟨x0, x1, x2⟩ := KXZ.out.three
    have lx := KXZ.out.lt
    have hbz : b < Z0.heap.size := hbl
    have hbz2 : b2 < Z0.heap.size := hbl2
    injection e1 with e1
    injection e1 with e1 e3 _
    replace e1 := e1.symm
    replace e3 := e3.symm
    subst e1 e3 e2
    clear hsv hps hx hnL
    go_wp2_with fail
    refine region_chainG (by kernel_rfl) (by kernel_rfl) [.quiet (.slice (some ⟨b, off, none⟩) q vc) 2, .quiet (.int .i64 k) 2, .quiet (.pointer (some ⟨b, off + k, none⟩)) 2, .quiet (.pointer (some ⟨b, off + k, none⟩)) 2, .quiet (.slice (some ⟨b2, off2, none⟩) nL sc) 2, .quiet (.pointer (some ⟨w1.heap.size, 2, none⟩)) 2, .quiet (.int .i64 0) 2, .quiet (.pointer (some ⟨b2, off2, none⟩)) 2, .quiet (.agg #[.int .i64 x.time, .bool x.key, .slice pa pn pc]) 2, .step 0, .step 1] [9, 10] (by kernel_rfl)
      (fun s r w' => match s with
        | 0 => Below Z0.heap.size Z0 w'
        | 1 => ∃ p, Z0.heap.size ≤ p ∧ Below Z0.heap.size Z0 w' ∧ Blk w' p #[.int .i64 0, .bool false, .slice none 0 0] 39 ∧ r 0 = .pointer (some ⟨p, 0, none⟩)
        | _ => ∃ p, Z0.heap.size ≤ p ∧ Below Z0.heap.size Z0 w' ∧ Blk w' p #[.int .i64 x.time, .bool x.key, .slice pa pn pc] 39 ∧ r 0 = .pointer (some ⟨p, 0, none⟩)
        ) ((Below.refl _ Z0).drew) ?step ?fin
    case step =>
      intro i o ho a' w' s r hI hfree hvals
      have hB : Below Z0.heap.size Z0 w' := by
        match s, hI with
        | 0, hI => exact hI
        | 1, ⟨_, _, hI, _⟩ => exact hI
        | n + 2, ⟨_, _, hI, _⟩ => exact hI
      have z0 := (hB.cell (p := ⟨b, off + k, none⟩) hbz).trans r0
      have z1 := (hB.cell (p := ⟨b2, off2, none⟩) hbz2).trans y0
      have z2 := (hB.cell (p := ⟨b2, off2 + 1, none⟩) hbz2).trans y1
      have z3 := (hB.cell (p := ⟨b2, off2 + 2, none⟩) hbz2).trans y2
      have z4 := (hB.cell (p := ⟨w1.heap.size, 2, none⟩) lx).trans x2
      match i, ho with
      | 0, ho =>
        simp at ho; subst ho
        have e10 : a'.eval (.tmp 10) = .slice (some ⟨b, off, none⟩) q vc := (hfree 10 (by kernel_rfl)).trans rfl
        show s ≤ 2 → _
        intro hs
        refine .inl ⟨rfl, ?_⟩
        generalize a'.eval = ρ at *
        simp [execOp, go_sem, e10]
      | 1, ho =>
        simp at ho; subst ho
        have e14 : a'.eval (.tmp 14) = .int .i64 k := (hfree 14 (by kernel_rfl)).trans rfl
        show s ≤ 2 → _
        intro hs
        refine .inl ⟨rfl, ?_⟩
        generalize a'.eval = ρ at *
        simp [execOp, go_sem, e14]
      | 2, ho =>
        simp at ho; subst ho
        have e76 : a'.eval (.tmp 76) = .slice (some ⟨b, off, none⟩) q vc := hvals 0 _ _ (by kernel_rfl) rfl rfl
        have e77 : a'.eval (.tmp 77) = .int .i64 k := hvals 1 _ _ (by kernel_rfl) rfl rfl
        show s ≤ 2 → _
        intro hs
        refine .inl ⟨rfl, ?_⟩
        generalize a'.eval = ρ at *
        simp [execOp, go_sem, e76, e77, hkqi]
      | 3, ho =>
        simp at ho; subst ho
        have e78 : a'.eval (.tmp 78) = .pointer (some ⟨b, off + k, none⟩) := hvals 2 _ _ (by kernel_rfl) rfl rfl
        show s ≤ 2 → _
        intro hs
        refine .inl ⟨rfl, ?_⟩
        generalize a'.eval = ρ at *
        simp [execOp, go_sem, e78]
      | 4, ho =>
        simp at ho; subst ho
        have e79 : a'.eval (.tmp 79) = .pointer (some ⟨b, off + k, none⟩) := hvals 3 _ _ (by kernel_rfl) rfl rfl
        show s ≤ 2 → _
        intro hs
        refine .inl ⟨rfl, ?_⟩
        generalize a'.eval = ρ at *
        simp [execOp, go_sem, e79, z0]
      | 5, ho =>
        simp at ho; subst ho
        have e12 : a'.eval (.tmp 12) = .pointer (some ⟨w1.heap.size, 0, none⟩) := (hfree 12 (by kernel_rfl)).trans rfl
        show s ≤ 2 → _
        intro hs
        refine .inl ⟨rfl, ?_⟩
        generalize a'.eval = ρ at *
        simp [execOp, go_sem, e12]
      | 6, ho =>
        simp at ho; subst ho
        have e81 : a'.eval (.tmp 81) = .pointer (some ⟨w1.heap.size, 2, none⟩) := hvals 5 _ _ (by kernel_rfl) rfl rfl
        show s ≤ 2 → _
        intro hs
        refine .inl ⟨rfl, ?_⟩
        generalize a'.eval = ρ at *
        simp [execOp, go_sem, e81, z4]
      | 7, ho =>
        simp at ho; subst ho
        have e80 : a'.eval (.tmp 80) = .slice (some ⟨b2, off2, none⟩) nL sc := hvals 4 _ _ (by kernel_rfl) rfl rfl
        have e82 : a'.eval (.tmp 82) = .int .i64 0 := hvals 6 _ _ (by kernel_rfl) rfl rfl
        show s ≤ 2 → _
        intro hs
        refine .inl ⟨rfl, ?_⟩
        generalize a'.eval = ρ at *
        simp [execOp, go_sem, e80, e82, hjz]
      | 8, ho =>
        simp at ho; subst ho
        have e83 : a'.eval (.tmp 83) = .pointer (some ⟨b2, off2, none⟩) := hvals 7 _ _ (by kernel_rfl) rfl rfl
        show s ≤ 2 → _
        intro hs
        refine .inl ⟨rfl, ?_⟩
        generalize a'.eval = ρ at *
        simp [execOp, go_sem, e83, z1, z2, z3]
      | 9, ho =>
        simp at ho; subst ho
        show s = 0 → _ ∧ Oper.wp _ _ _ _ _ _
        intro hs
        subst hs
        refine ⟨rfl, ?_⟩
        have hI0 : Below Z0.heap.size Z0 w' := hI
        refine oper_wp_ok (v := .pointer (some ⟨w'.heap.size, 0, none⟩)) (w' := w'.alloc (.cells #[.int .i64 0, .bool false, .slice none 0 0] 39)) ?_ ⟨_, rfl, w'.heap.size, hI0.size, hI0.alloc hI0.size _, Blk.new _ _ _, updR_at _ _ _⟩
        generalize a'.eval = ρ at *
        simp [execOp, go_sem]
      | 10, ho =>
        simp at ho; subst ho
        have e15 : a'.eval (.tmp 15) = r 0 := hvals 9 _ _ (by kernel_rfl) rfl rfl
        have e84 : a'.eval (.tmp 84) = .agg #[.int .i64 x.time, .bool x.key, .slice pa pn pc] := hvals 8 _ _ (by kernel_rfl) rfl rfl
        show s = 1 → _ ∧ Oper.wp _ _ _ _ _ _
        intro hs
        subst hs
        refine ⟨rfl, ?_⟩
        obtain ⟨p, hp, hB2, hblk, hr⟩ := hI
        rw [hr] at e15
        obtain ⟨t0, t1, t2⟩ := hblk.three
        have fr := hblk.free
        refine oper_wp_skip (w' := ((w'.setCell ⟨p, 0, none⟩ (.int .i64 x.time)).setCell ⟨p, 1, none⟩ (.bool x.key)).setCell ⟨p, 2, none⟩ (.slice pa pn pc)) ?_ ⟨_, rfl, p, hp, ?_, ?_, by rw [updR_ne (by omega)]; exact hr⟩
        · generalize a'.eval = ρ at *
          simp [execOp, go_sem, e15, e84, t0, t1, t2, fr]
        · exact ((hB2.setCell hp _).setCell hp _).setCell hp _
        · exact ((hblk.set 0 (.int .i64 x.time)).set 1 (.bool x.key)).set 2 (.slice pa pn pc)
    case fin =>
      rintro r Y2 ⟨p, hp, bz, KF2', hr⟩
      simp only [putC, Ck.out, hr, Act.put, List.setIfInBounds_toArray, List.set_cons_succ, List.set_cons_zero]
      have hps2 := hp
      have HB2 : Hid (Below w1.heap.size w1 Y2) := HBZ.out.trans (bz.mono HBZ.out.size)
      have KX2 : Hid (Blk Y2 w1.heap.size #[.int .i64 m, .int .i64 g, .int .i64 0] 41) := KXZ.out.below bz KXZ.out.lt
      have KF2 : Hid (Blk Y2 p #[.int .i64 x.time, .bool x.key, .slice pa pn pc] 39) := KF2'
      have HPQ : Hid (StrsIn (fun b => (b < w.heap.size ∨ w.heap.size + 4 ≤ b) ∧ b < w1.heap.size) Y2 (.slice pa pn pc) x.parts) := HPS.out.below bz
      have HPR : Hid (∀ V1 V2 : World, (∀ c, c ≠ w1.heap.size → V1.heap[c]? = Y2.heap[c]?) → V1.heap.size = Y2.heap.size → (∀ c, c ≠ w.heap.size + 1 + 1 → c ≠ w.heap.size + 1 + 1 + 1 → V2.heap[c]? = V1.heap[c]?) → V2.heap.size = V1.heap.size → StrsIn (fun _ => True) V2 (.slice pa pn pc) x.parts) := fun V1 V2 h1 h2 h3 h4 => HPQ.out.to ⟨by omega, fun c _ hS => by rw [h3 c (by omega) (by omega), h1 c (by omega)]⟩ (fun _ _ _ => trivial)
      have lz := KXZ.out.lt
      have hpw : w1.heap.size < p := by omega
      clear bz HPS r0 lx KF2' hps2 hr y0 y1 y2 x0 x1 x2
      have FB := HS1.out Y2 HB2.out
      obtain ⟨k0', k1, k2⟩ := FB.1.1.1.three
      obtain ⟨j0, j1, j2⟩ := FB.1.1.2.three
      obtain ⟨p0, p1, p2⟩ := FB.1.2.1.1.three
      obtain ⟨q0, q1, q2⟩ := FB.1.2.1.2.three
      have fp := FB.1.2.1.1.free
      have fq := FB.1.2.1.2.free
      have lp := FB.1.2.1.1.lt
      have lq := FB.1.2.1.2.lt
      have lj := FB.1.1.2.lt
      have lk := FB.1.1.1.lt
      obtain ⟨x0, x1, x2⟩ := KX2.out.three
      obtain ⟨y0, y1, y2⟩ := KF2.out.three
      have fx := KX2.out.free
      have lx := KX2.out.lt
      have ly := KF2.out.lt
      by_cases h3 : m = 3 ∧ upto < x.time
      · have HNN : Hid (N = none) := by show _ = _; rw [HNA.out]; unfold tryAt; rw [← HXE.out, if_pos h3]
        have h31 : (m == 3) = true := by simpa using h3.1
        have h32 : upto < x.time := h3.2
        clear h3 FB
        go_wp2_with fail
        obtain ⟨n1, n2, n3⟩ := HNONE.out _ _ HB2.out rfl
        obtain ⟨u0, u1, u2⟩ := n1.three
        obtain ⟨v0, v1, v2⟩ := n2.three
        rw [HNN.out]
        exact bodyPost_ret (v := .tuple #[.agg #[.int .i64 m, .int .i64 g, .int .i64 f], .agg #[.int .i64 0, .bool false, .slice none 0 0], .bool false, .bool false]) (by simp [results, Try.results25, go_sem, u0, u1, u2, v0, v1, v2]) rfl (NxPost.of ⟨m, g, f, Fr.zero, .slice none 0 0, false, false, rfl, StrsIn.nil _ _, ⟨rfl, rfl, rfl, rfl, rfl, rfl⟩, n3⟩)
      · have HNS : Hid (N = some (k, 0, false)) := by show _ = _; rw [HNA.out]; unfold tryAt; rw [← HXE.out, if_neg h3]
        have hcond : (m == 3) = false ∨ ((m == 3) = true ∧ ¬ upto < x.time) := by
          by_cases h : m = 3
          · exact .inr ⟨by simpa using h, fun h' => h3 ⟨h, h'⟩⟩
          · exact .inl (by simpa using h)
        obtain ⟨V1, hV1⟩ : ∃ V, V = (Y2.setCell ⟨w1.heap.size, 1, none⟩ (.int .i64 (first + k))).setCell ⟨w1.heap.size, 2, none⟩ (.int .i64 1) := ⟨_, rfl⟩
        have BV1 : Hid (Below w1.heap.size w1 V1) := by rw [hV1]; exact (HB2.out.setCell (Nat.le_refl _) _).setCell (Nat.le_refl _) _
        have KV1 : Hid (Blk V1 w1.heap.size #[.int .i64 m, .int .i64 (first + k), .int .i64 1] 41) := by
          have := (KX2.out.set 1 (.int .i64 (first + k))).set 2 (.int .i64 1)
          rw [hV1]; simpa [Hid] using this
        have hV1o : ∀ c, c ≠ w1.heap.size → V1.heap[c]? = Y2.heap[c]? := fun c hc => by rw [hV1, Below.heap_setCell _ _ _ _ (by exact hc), Below.heap_setCell _ _ _ _ (by exact hc)]
        have hV1s : V1.heap.size = Y2.heap.size := by rw [hV1]; simp
        have KFV : Hid (Blk V1 p #[.int .i64 x.time, .bool x.key, .slice pa pn pc] 39) := (hV1o _ (by omega)).trans KF2.out
        have HPZ : Hid (∀ V2 : World, (∀ c, c ≠ w.heap.size + 1 + 1 → c ≠ w.heap.size + 1 + 1 + 1 → V2.heap[c]? = V1.heap[c]?) → V2.heap.size = V1.heap.size → StrsIn (fun _ => True) V2 (.slice pa pn pc) x.parts) := fun V2 h1 h2 => HPR.out V1 V2 hV1o hV1s h1 h2
        clear h3 FB hV1o hV1s HPR HPQ
        go_upto_region 17 with fail
        go_cut [93] (fun s93 wc => s93 = .bool false ∧ wc = Y2)
        case first =>
          rcases hcond with hcd | ⟨hcd, hcd2⟩
          all_goals
            go_wp2_with fail
            go_meet
            case rel => exact ⟨rfl, rfl⟩
        case rest =>
          obtain ⟨rfl, rfl⟩ := hcut
          go_wp2_with fail
          rw [← hV1]
          clear hV1 hcond k0' k1 k2 j0 j1 j2 p0 p1 p2 q0 q1 q2 fp fq lj lk x0 x1 x2 y0 y1 y2 fx lx ly
          have F1 := HS1.out V1 BV1.out
          have BA : Hid (Blk V1 (w.heap.size + 1 + 1) #[.int .i64 0, .int .i64 0, .int .i64 0] 41) := F1.1.2.1.1
          have BI : Hid (Blk V1 (w.heap.size + 1 + 1 + 1) #[.int .i64 0, .bool false, .slice none 0 0] 39) := F1.1.2.1.2
          have BW : Hid (Below w.heap.size w V1) := F1.1.2.2
          have hn1 : ¬ w1.heap.size = w.heap.size + 1 + 1 := by omega
          have hn2 : ¬ w1.heap.size = w.heap.size + 1 + 1 + 1 := by omega
          have hn3 : ¬ p = w.heap.size + 1 + 1 := by omega
          have hn4 : ¬ p = w.heap.size + 1 + 1 + 1 := by omega
          clear F1
          obtain ⟨EW, hEW⟩ : ∃ E : World → Prop, E = fun V => (∀ c, c ≠ w.heap.size + 1 + 1 → c ≠ w.heap.size + 1 + 1 + 1 → V.heap[c]? = V1.heap[c]?) ∧ V.heap.size = V1.heap.size ∧ Below w.heap.size w V := ⟨_, rfl⟩
          refine region_chainG (by kernel_rfl) (by kernel_rfl) [.quiet (.agg #[.int .i64 m, .int .i64 (first + k), .int .i64 1]) 4, .quiet (.agg #[.int .i64 x.time, .bool x.key, .slice pa pn pc]) 4, .quiet (.bool false) 4, .step 0, .step 1, .step 2, .step 3] [3, 4, 5, 6] (by kernel_rfl)
            (fun s r w' => match s with
              | 0 => EW w' ∧ Blk w' (w.heap.size + 1 + 1) #[.int .i64 0, .int .i64 0, .int .i64 0] 41 ∧ Blk w' (w.heap.size + 1 + 1 + 1) #[.int .i64 0, .bool false, .slice none 0 0] 39
              | 1 => EW w' ∧ Blk w' (w.heap.size + 1 + 1) #[.int .i64 m, .int .i64 (first + k), .int .i64 1] 41 ∧ Blk w' (w.heap.size + 1 + 1 + 1) #[.int .i64 0, .bool false, .slice none 0 0] 39
              | 2 => EW w' ∧ Blk w' (w.heap.size + 1 + 1) #[.int .i64 m, .int .i64 (first + k), .int .i64 1] 41 ∧ Blk w' (w.heap.size + 1 + 1 + 1) #[.int .i64 x.time, .bool x.key, .slice pa pn pc] 39
              | 3 => EW w' ∧ Blk w' (w.heap.size + 1 + 1) #[.int .i64 m, .int .i64 (first + k), .int .i64 1] 41 ∧ Blk w' (w.heap.size + 1 + 1 + 1) #[.int .i64 x.time, .bool x.key, .slice pa pn pc] 39 ∧ r 2 = .bool true
              | _ => EW w' ∧ Blk w' (w.heap.size + 1 + 1) #[.int .i64 m, .int .i64 (first + k), .int .i64 1] 41 ∧ Blk w' (w.heap.size + 1 + 1 + 1) #[.int .i64 x.time, .bool x.key, .slice pa pn pc] 39 ∧ r 2 = .bool true ∧ r 3 = .bool false
              ) (by rw [hEW]; exact ⟨⟨fun c _ _ => rfl, rfl, BW.out.drew⟩, BA.out.drew, BI.out.drew⟩) ?step ?fin
          case step =>
            intro i o ho a' w' s r hI hfree hvals
            have hE : EW w' := by
              match s, hI with
              | 0, hI => exact hI.1
              | 1, hI => exact hI.1
              | 2, hI => exact hI.1
              | 3, hI => exact hI.1
              | n + 4, hI => exact hI.1
            rw [hEW] at hE
            have kx : Blk w' w1.heap.size #[.int .i64 m, .int .i64 (first + k), .int .i64 1] 41 := (hE.1 _ hn1 hn2).trans KV1.out
            have kf : Blk w' p #[.int .i64 x.time, .bool x.key, .slice pa pn pc] 39 := (hE.1 _ hn3 hn4).trans KFV.out
            obtain ⟨a0, a1, a2⟩ := kx.three
            obtain ⟨b0, b1, b2⟩ := kf.three
            match i, ho with
            | 0, ho =>
              simp at ho; subst ho
              have e12 : a'.eval (.tmp 12) = .pointer (some ⟨w1.heap.size, 0, none⟩) := (hfree 12 (by kernel_rfl)).trans rfl
              show s ≤ 4 → _
              intro hs
              refine .inl ⟨rfl, ?_⟩
              generalize a'.eval = ρ at *
              simp [execOp, go_sem, e12, a0, a1, a2]
            | 1, ho =>
              simp at ho; subst ho
              have e15 : a'.eval (.tmp 15) = .pointer (some ⟨p, 0, none⟩) := (hfree 15 (by kernel_rfl)).trans rfl
              show s ≤ 4 → _
              intro hs
              refine .inl ⟨rfl, ?_⟩
              generalize a'.eval = ρ at *
              simp [execOp, go_sem, e15, b0, b1, b2]
            | 2, ho =>
              simp at ho; subst ho
              have e13 : a'.eval (.tmp 13) = .bool false := (hfree 13 (by kernel_rfl)).trans rfl
              show s ≤ 4 → _
              intro hs
              refine .inl ⟨rfl, ?_⟩
              generalize a'.eval = ρ at *
              simp [execOp, go_sem, e13]
            | 3, ho =>
              simp at ho; subst ho
              have e6 : a'.eval (.tmp 6) = .pointer (some ⟨w.heap.size + 1 + 1, 0, none⟩) := (hfree 6 (by kernel_rfl)).trans rfl
              have e105 : a'.eval (.tmp 105) = .agg #[.int .i64 m, .int .i64 (first + k), .int .i64 1] := hvals 0 _ _ (by kernel_rfl) rfl rfl
              show s = 0 → _ ∧ Oper.wp _ _ _ _ _ _
              intro hs
              subst hs
              refine ⟨rfl, ?_⟩
              obtain ⟨_, c1, c2⟩ := hI
              obtain ⟨t0, t1, t2⟩ := c1.three
              have fr := c1.free
              refine oper_wp_skip (w' := ((w'.setCell ⟨w.heap.size + 1 + 1, 0, none⟩ (.int .i64 m)).setCell ⟨w.heap.size + 1 + 1, 1, none⟩ (.int .i64 (first + k))).setCell ⟨w.heap.size + 1 + 1, 2, none⟩ (.int .i64 1)) ?_ ⟨_, rfl, ?_, ?_, ?_⟩
              · generalize a'.eval = ρ at *
                simp [execOp, go_sem, e6, e105, t0, t1, t2, fr]
              · rw [hEW]
                refine ⟨fun c h1 h2 => by rw [Below.heap_setCell _ _ _ _ (by exact h1), Below.heap_setCell _ _ _ _ (by exact h1), Below.heap_setCell _ _ _ _ (by exact h1)]; exact hE.1 c h1 h2, by simp; exact hE.2.1, ?_⟩
                exact ((hE.2.2.setCell (by show _ ≤ w.heap.size + 1 + 1; omega) _).setCell (by show _ ≤ w.heap.size + 1 + 1; omega) _).setCell (by show _ ≤ w.heap.size + 1 + 1; omega) _
              · exact ((c1.set 0 (.int .i64 m)).set 1 (.int .i64 (first + k))).set 2 (.int .i64 1)
              · exact ((c2.other (a := ⟨w.heap.size + 1 + 1, 0, none⟩) (by show w.heap.size + 1 + 1 + 1 ≠ w.heap.size + 1 + 1; omega) _).other (a := ⟨w.heap.size + 1 + 1, 1, none⟩) (by show w.heap.size + 1 + 1 + 1 ≠ w.heap.size + 1 + 1; omega) _).other (a := ⟨w.heap.size + 1 + 1, 2, none⟩) (by show w.heap.size + 1 + 1 + 1 ≠ w.heap.size + 1 + 1; omega) _
            | 4, ho =>
              simp at ho; subst ho
              have e7 : a'.eval (.tmp 7) = .pointer (some ⟨w.heap.size + 1 + 1 + 1, 0, none⟩) := (hfree 7 (by kernel_rfl)).trans rfl
              have e106 : a'.eval (.tmp 106) = .agg #[.int .i64 x.time, .bool x.key, .slice pa pn pc] := hvals 1 _ _ (by kernel_rfl) rfl rfl
              show s = 1 → _ ∧ Oper.wp _ _ _ _ _ _
              intro hs
              subst hs
              refine ⟨rfl, ?_⟩
              obtain ⟨_, c1, c2⟩ := hI
              obtain ⟨t0, t1, t2⟩ := c2.three
              have fr := c2.free
              refine oper_wp_skip (w' := ((w'.setCell ⟨w.heap.size + 1 + 1 + 1, 0, none⟩ (.int .i64 x.time)).setCell ⟨w.heap.size + 1 + 1 + 1, 1, none⟩ (.bool x.key)).setCell ⟨w.heap.size + 1 + 1 + 1, 2, none⟩ (.slice pa pn pc)) ?_ ⟨_, rfl, ?_, ?_, ?_⟩
              · generalize a'.eval = ρ at *
                simp [execOp, go_sem, e7, e106, t0, t1, t2, fr]
              · rw [hEW]
                refine ⟨fun c h1 h2 => by rw [Below.heap_setCell _ _ _ _ (by exact h2), Below.heap_setCell _ _ _ _ (by exact h2), Below.heap_setCell _ _ _ _ (by exact h2)]; exact hE.1 c h1 h2, by simp; exact hE.2.1, ?_⟩
                exact ((hE.2.2.setCell (by show _ ≤ w.heap.size + 1 + 1 + 1; omega) _).setCell (by show _ ≤ w.heap.size + 1 + 1 + 1; omega) _).setCell (by show _ ≤ w.heap.size + 1 + 1 + 1; omega) _
              · exact ((c1.other (a := ⟨w.heap.size + 1 + 1 + 1, 0, none⟩) (by show w.heap.size + 1 + 1 ≠ w.heap.size + 1 + 1 + 1; omega) _).other (a := ⟨w.heap.size + 1 + 1 + 1, 1, none⟩) (by show w.heap.size + 1 + 1 ≠ w.heap.size + 1 + 1 + 1; omega) _).other (a := ⟨w.heap.size + 1 + 1 + 1, 2, none⟩) (by show w.heap.size + 1 + 1 ≠ w.heap.size + 1 + 1 + 1; omega) _
              · exact ((c2.set 0 (.int .i64 x.time)).set 1 (.bool x.key)).set 2 (.slice pa pn pc)
            | 5, ho =>
              simp at ho; subst ho
              have ec0 : a'.eval (.const (.bool true)) = .bool true := rfl
              show s = 2 → _ ∧ Oper.wp _ _ _ _ _ _
              intro hs
              subst hs
              refine ⟨rfl, ?_⟩
              obtain ⟨c0, c1, c2⟩ := hI
              refine oper_wp_ok (v := .bool true) (w' := w') ?_ ⟨_, rfl, c0, c1, c2, updR_at _ _ _⟩
              generalize a'.eval = ρ at *
              simp [execOp, go_sem, ec0]
            | 6, ho =>
              simp at ho; subst ho
              have e107 : a'.eval (.tmp 107) = .bool false := hvals 2 _ _ (by kernel_rfl) rfl rfl
              show s = 3 → _ ∧ Oper.wp _ _ _ _ _ _
              intro hs
              subst hs
              refine ⟨rfl, ?_⟩
              obtain ⟨c0, c1, c2, c3⟩ := hI
              refine oper_wp_ok (v := .bool false) (w' := w') ?_ ⟨_, rfl, c0, c1, c2, by rw [updR_ne (by omega)]; exact c3, updR_at _ _ _⟩
              generalize a'.eval = ρ at *
              simp [execOp, go_sem, e107]
          case fin =>
            rintro r V2 ⟨d0, d1, d2, d3, d4⟩
            simp only [putC, Ck.out, d3, d4, Act.put, List.setIfInBounds_toArray, List.set_cons_succ, List.set_cons_zero]
            rw [hEW] at d0
            have HPV : Hid (StrsIn (fun _ => True) V2 (.slice pa pn pc) x.parts) := HPZ.out V2 d0.1 d0.2.1
            have BV2 : Hid (Below w.heap.size w V2) := d0.2.2
            obtain ⟨u0, u1, u2⟩ := d1.three
            obtain ⟨v0, v1, v2⟩ := d2.three
            clear d0 d1 d2 hEW HPZ BA BI BW KV1 KFV BV1
            go_wp2_with fail
            rw [HNS.out]
            exact bodyPost_ret (v := .tuple #[.agg #[.int .i64 m, .int .i64 (first + k), .int .i64 1], .agg #[.int .i64 x.time, .bool x.key, .slice pa pn pc], .bool true, .bool false]) (by simp [results, Try.results25, go_sem, u0, u1, u2, v0, v1, v2]) rfl (NxPost.of ⟨m, (first + k), 1, x, .slice pa pn pc, true, false, rfl, HPV.out, ⟨rfl, by simp, by simp, HXE.out, rfl, rfl⟩, BV2.out⟩)

end Go.Proofs.Ytnpaejknoipicae

namespace Go.Proofs.Ytnpaejknoipicae
open Go.RowKit Go.Sort

set_option maxHeartbeats 16000000 in
set_option maxRecDepth 100000 in
theorem refNextOf_in (first : Int) (gv ov : Value) (L : List (List Fr)) (O : List Fr) (m g f upto : Int) (w : World) (hg : GrsIn (fun _ => True) w gv L) (ho : FrsIn (fun _ => True) w ov O) (hs : stchk first L O = 0) (hc : curE m g f = 0) (k0 : Nat) (hm2 : ¬ m = 2) (hgk : g - first = k0) (hk0' : k0 < (allG L O).length) (hfl' : f ≤ ((grAt (allG L O) k0).length : Int)) (hfc' : ¬ f = ((grAt (allG L O) k0).length : Int)) :
    Calls Try.prog 25 #[.agg #[.int .i64 first, gv, ov], .agg #[.int .i64 m, .int .i64 g, .int .i64 f], .int .i64 upto] w (NxPost (tryAt m upto (allG L O) k0 f.toNat false) m g f first (allG L O) w) := by
  obtain ⟨c1, c2, c3, c4, c5, c6⟩ := curE_zero.1 hc
  obtain ⟨s1, s2, s3, _⟩ := stchk_zero.1 hs
  obtain ⟨A, hA⟩ : ∃ A, A = allG L O := ⟨_, rfl⟩
  have hq6 : A.length ≤ 6 := by rw [hA]; exact allG_len L O s3
  have HAR : Hid (∀ k, k < A.length → 0 < (grAt A k).length ∧ (grAt A k).length ≤ 6) := fun k hk => by
    have := gchk_first (by rw [hA]; exact allG_right hs _ (grAt_mem (by rw [← hA]; exact hk)) : gchk (grAt A k) = 0)
    exact ⟨this.1, this.2.1⟩
  obtain ⟨q, hq⟩ : ∃ q, q = A.length := ⟨_, rfl⟩
  have HQ : Hid (q = A.length) := hq
  rw [← hq] at hq6
  obtain ⟨d, hd⟩ : ∃ d, d = g - first := ⟨_, rfl⟩
  obtain ⟨N, hN⟩ : ∃ N : Option (Nat × Nat × Bool), N = tryAt m upto A k0 f.toNat false := ⟨_, rfl⟩
  have HNA0 : Hid (N = tryAt m upto A k0 f.toNat false) := hN
  have HFL : Hid (f ≤ ((grAt A k0).length : Int)) := by rw [hA]; exact hfl'
  have HFC : Hid (¬ f = ((grAt A k0).length : Int)) := by rw [hA]; exact hfc'
  have hk0q : k0 < q := by rw [hq, hA]; exact hk0'
  have hdk : d = (k0 : Int) := by omega
  have hq0 : ¬ q = 0 := by omega
  rw [← hA, ← hN]
  clear hN hfl' hfc' hk0' hgk
  have HALL : Hid (∀ U : World, Below w.heap.size w U → Calls Try.prog 16 #[.agg #[.int .i64 first, gv, ov]] U fun e w' => ∃ a c, e = .returned (.slice a q c) ∧ Hid (GrsIn (fun b => b < w.heap.size ∨ U.heap.size ≤ b) w' (.slice a q c) A) ∧ Below U.heap.size U w') := fun U hU => by
    refine (allOf_in (fun b => b < w.heap.size) first gv ov L O U ((hg.mono fun b h _ => h).below hU) ((ho.mono fun b h _ => h).below hU) (by omega)).mono ?_
    rintro e w' ⟨v', rfl, h4, h5⟩
    rw [← hA] at h4
    obtain ⟨a, c, e, _, _⟩ := h4.len
    rw [← hq] at e
    subst e
    exact ⟨a, c, rfl, h4, h5⟩
  obtain ⟨ga, gc, eg, _, _⟩ := hg.len
  obtain ⟨oa, oc, eo, _, _⟩ := ho.len
  obtain ⟨ln, hln⟩ : ∃ n, n = L.length := ⟨_, rfl⟩
  obtain ⟨lo, hlo⟩ : ∃ n, n = O.length := ⟨_, rfl⟩
  rw [← hln] at eg
  rw [← hlo] at eo
  have hdb : -200000 ≤ d ∧ d ≤ 200000 := by omega
  have hgd : g - first = d := hd.symm
  clear hg ho hs hc hA hq hln hlo s3 hd
  subst eg eo
  go_enter Try.func25, Try.ntmps25
  go_wp2_with fail
  obtain ⟨W0, hW0⟩ : ∃ W0, W0 = (((w.alloc (.cells #[.int .i64 first, .slice ga ln gc, .slice oa lo oc] 36)).alloc (.cells #[.int .i64 m, .int .i64 g, .int .i64 f] 41)).alloc (.cells #[.int .i64 0, .int .i64 0, .int .i64 0] 41)).alloc (.cells #[.int .i64 0, .bool false, .slice none 0 0] 39) := ⟨_, rfl⟩
  have HS0 : Hid (Stay W0 (fun U => (Blk U w.heap.size #[.int .i64 first, .slice ga ln gc, .slice oa lo oc] 36 ∧ Blk U (w.heap.size + 1) #[.int .i64 m, .int .i64 g, .int .i64 f] 41) ∧ (Blk U (w.heap.size + 1 + 1) #[.int .i64 0, .int .i64 0, .int .i64 0] 41 ∧ Blk U (w.heap.size + 1 + 1 + 1) #[.int .i64 0, .bool false, .slice none 0 0] 39) ∧ Below w.heap.size w U)) := by
    have hb : Below w.heap.size w W0 := by rw [hW0]; exact ((((Below.refl _ _).alloc (Nat.le_refl _) _).alloc (by simp) _).alloc (by simp; omega) _).alloc (by simp; omega) _
    have k0 : Blk W0 w.heap.size #[.int .i64 first, .slice ga ln gc, .slice oa lo oc] 36 := by rw [hW0]; exact (((Blk.new _ _ _).alloc _).alloc _).alloc _
    have k1 : Blk W0 (w.heap.size + 1) #[.int .i64 m, .int .i64 g, .int .i64 f] 41 := by
      have := Blk.new (w.alloc (.cells #[.int .i64 first, .slice ga ln gc, .slice oa lo oc] 36)) #[.int .i64 m, .int .i64 g, .int .i64 f] 41
      simp only [World.size_alloc] at this
      rw [hW0]; exact (this.alloc _).alloc _
    have k2 : Blk W0 (w.heap.size + 1 + 1) #[.int .i64 0, .int .i64 0, .int .i64 0] 41 := by
      have := Blk.new ((w.alloc (.cells #[.int .i64 first, .slice ga ln gc, .slice oa lo oc] 36)).alloc (.cells #[.int .i64 m, .int .i64 g, .int .i64 f] 41)) #[.int .i64 0, .int .i64 0, .int .i64 0] 41
      simp only [World.size_alloc] at this
      rw [hW0]; exact this.alloc _
    have k3 : Blk W0 (w.heap.size + 1 + 1 + 1) #[.int .i64 0, .bool false, .slice none 0 0] 39 := by
      have := Blk.newE hW0
      simp only [World.size_alloc] at this
      exact this
    exact (k0.stay.and k1.stay).and ((k2.stay.and k3.stay).and (below_stay hb hb.size))
  have z0 : W0.heap.size = w.heap.size + 4 := by rw [hW0]; simp
  rw [← hW0]
  clear hW0
  refine (HALL.out _ HS0.out.now.2.2).mono ?_
  rintro e w1 ⟨va, vc, rfl, GA, b1⟩
  have HS1 := (((HS0.out.step b1)).and (GA.out.mono (S' := fun b => (b < w.heap.size ∨ w.heap.size + 4 ≤ b) ∧ b < w1.heap.size) (fun b hb h => ⟨h.imp id (fun h => by omega), hb⟩)).stay).hid
  have lw1 : w.heap.size + 1 + 1 + 1 < w1.heap.size := HS1.out.now.1.2.1.2.lt
  clear b1 HS0 HALL GA
  -- none: the cursor as it was
  have HNONE : Hid (∀ (Y V : World), Below w1.heap.size w1 Y → V = (((((Y.setCell ⟨w.heap.size + 1 + 1, 0, none⟩ (.int .i64 m)).setCell ⟨w.heap.size + 1 + 1, 1, none⟩ (.int .i64 g)).setCell ⟨w.heap.size + 1 + 1, 2, none⟩ (.int .i64 f)).setCell ⟨w.heap.size + 1 + 1 + 1, 0, none⟩ (.int .i64 0)).setCell ⟨w.heap.size + 1 + 1 + 1, 1, none⟩ (.bool false)).setCell ⟨w.heap.size + 1 + 1 + 1, 2, none⟩ (.slice none 0 0) → Blk V (w.heap.size + 1 + 1) #[.int .i64 m, .int .i64 g, .int .i64 f] 41 ∧ Blk V (w.heap.size + 1 + 1 + 1) #[.int .i64 0, .bool false, .slice none 0 0] 39 ∧ Below w.heap.size w V) := fun Y V hY hV => by
    obtain ⟨_, h2, h3⟩ := (HS1.out Y hY).1
    obtain ⟨n1, n2, n3, _⟩ := endTwo (by omega) (by omega) (by omega) m g f 0 false (.slice none 0 0) h3 h2.1 h2.2 hV
    exact ⟨n1, n2, n3⟩
  obtain ⟨k0', k1, k2⟩ := HS1.out.now.1.1.1.three
  obtain ⟨j0, j1, j2⟩ := HS1.out.now.1.1.2.three
  obtain ⟨W1, hW1⟩ : ∃ W1, W1 = w1.alloc (.cells #[.int .i64 m, .int .i64 g, .int .i64 f] 41) := ⟨_, rfl⟩
  have BW1 : Hid (Below w1.heap.size w1 W1) := by rw [hW1]; exact (Below.refl _ _).alloc (Nat.le_refl _) _
  have KX1 : Hid (Blk W1 w1.heap.size #[.int .i64 m, .int .i64 g, .int .i64 f] 41) := Blk.newE hW1
  have hmb : (m == 2) = false := by simpa using hm2
  have hqb : ((q : Int) == 0) = false := by simp; omega
  have FB := HS1.out W1 BW1.out
  obtain ⟨k0', k1, k2⟩ := FB.1.1.1.three
  obtain ⟨j0, j1, j2⟩ := FB.1.1.2.three
  obtain ⟨p0, p1, p2⟩ := FB.1.2.1.1.three
  obtain ⟨q0, q1, q2⟩ := FB.1.2.1.2.three
  have fp := FB.1.2.1.1.free
  have fq := FB.1.2.1.2.free
  have lp := FB.1.2.1.1.lt
  have lq := FB.1.2.1.2.lt
  have lj := FB.1.1.2.lt
  have lk := FB.1.1.1.lt
  obtain ⟨x0, x1, x2⟩ := KX1.out.three
  have fx := KX1.out.free
  have lx := KX1.out.lt
  subst hW1
  go_upto_region 7 with fail
  obtain ⟨bq, oq, sa, sc, e1, hbl, _, r0, _⟩ := FB.2.at (k := k0) (by rw [← HQ.out]; exact hk0q)
  obtain ⟨nL, hnL⟩ : ∃ n, n = (grAt A k0).length := ⟨_, rfl⟩
  rw [← hnL] at r0
  have hnf : ¬ (nL : Int) < f := by rw [hnL]; have := HFL.out; omega
  have hki : (k0 : Int) < (q : Int) := by omega
  have HNL : Hid (nL = (grAt A k0).length) := hnL
  subst hdk e1
  clear hnL
  go_cut [52] (fun s52 wc => s52 = .bool false ∧ Hid (Below w1.heap.size w1 wc) ∧ Hid (Blk wc w1.heap.size #[.int .i64 m, .int .i64 g, .int .i64 f] 41))
  case first =>
    go_quiet (fail)
    go_wp2_with fail
    go_meet
    case rel => exact ⟨by simp; omega, below_drewN BW1.out _, KX1.out.drewN _⟩
  case rest =>
    obtain ⟨rfl, HBY, KXY⟩ := hcut
    obtain ⟨Y, hY⟩ : ∃ x, x = wc := ⟨wc, rfl⟩
    subst hY
    clear k0' k1 k2 j0 j1 j2 p0 p1 p2 q0 q1 q2 fp fq lp lq lj lk FB x0 x1 x2 fx lx BW1 KX1 r0 hbl
    have FB := HS1.out Y HBY.out
    obtain ⟨b', off', sa', sc', e1', hbl, _, r0, _⟩ := FB.2.at (k := k0) (by rw [← HQ.out]; exact hk0q)
    injection e1' with e1'
    injection e1' with e1' e2' _
    subst e1' e2'
    rw [← HNL.out] at r0
    obtain ⟨j0, j1, j2⟩ := FB.1.1.2.three
    obtain ⟨x0, x1, x2⟩ := KXY.out.three
    have fx := KXY.out.free
    have lx := KXY.out.lt
    have lj := FB.1.1.2.lt
    have hjx : ¬ w.heap.size + 1 = w1.heap.size := by omega
    clear FB
    have hfn : ¬ f = (nL : Int) := by rw [HNL.out]; exact HFC.out
    have hfb : (f == (nL : Int)) = false := by simpa using hfn
    go_wp2_with fail
    go_quiet (fail)
    go_wp2_with fail
    obtain ⟨Z0, hZ0⟩ : ∃ V, V = Y.drewN nq := ⟨_, rfl⟩
    have HBZ : Hid (Below w1.heap.size w1 Z0) := by rw [hZ0]; exact below_drewN HBY.out nq
    have KXZ0 : Hid (Blk Z0 w1.heap.size #[.int .i64 m, .int .i64 g, .int .i64 f] 41) := by rw [hZ0]; exact KXY.out.drewN nq
    rw [← hZ0]
    clear hZ0 j0 j1 j2 x0 x1 x2 fx lx lj r0 hbl hfb
    obtain ⟨j, hj⟩ : ∃ j : Nat, f = j := ⟨f.toNat, by omega⟩
    obtain ⟨k, hk⟩ : ∃ k, k = k0 := ⟨_, rfl⟩
    subst hj hk
    have KXZ := KXZ0
    have hkq' : k < q := hk0q
    have hjl' : j < (grAt A k).length := by have h1 := HFL.out; have h2 := HFC.out; omega
    have HNA : Hid (N = tryAt m upto A k j false) := by have := HNA0.out; rw [Int.toNat_natCast] at this; exact this
    clear KXZ0 HNA0 HFC HFL hfn
    obtain ⟨b, off, sa, sc, e1, hbl, _, r0, hsv⟩ := (HS1.out Z0 HBZ.out).2.at (k := k) (by rw [← HQ.out]; exact hkq')
    obtain ⟨b2, off2, pa, pc, e2, hbl2, _, y0, y1, y2, hps⟩ := hsv.at (k := j) (by first | exact hjl' | exact (HAR.out k (by rw [← HQ.out]; exact hkq')).1)
    obtain ⟨x, hx⟩ : ∃ x, x = frAt (grAt A k) j := ⟨_, rfl⟩
    obtain ⟨nL, hnL⟩ : ∃ n, n = (grAt A k).length := ⟨_, rfl⟩
    have hjl : j < nL := by rw [hnL]; first | exact hjl' | exact (HAR.out k (by rw [← HQ.out]; exact hkq')).1
    rw [← hx] at y0 y1 y2 hps
    obtain ⟨pn, hpn⟩ : ∃ n, n = x.parts.length := ⟨_, rfl⟩
    rw [← hpn] at y2 hps
    clear hpn
    rw [← hnL] at r0
    have HXE : Hid (x = frAt (grAt A k) j) := hx
    have HPS : Hid (StrsIn (fun b => (b < w.heap.size ∨ w.heap.size + 4 ≤ b) ∧ b < w1.heap.size) Z0 (.slice pa pn pc) x.parts) := hps
    have hkqi : (k : Int) < (q : Int) := by omega
    have hjn : (j : Int) < (nL : Int) := by omega
    obtain ⟨x0, x1, x2⟩ := KXZ.out.three
    have lx := KXZ.out.lt
    have hbz : b < Z0.heap.size := hbl
    have hbz2 : b2 < Z0.heap.size := hbl2
    injection e1 with e1
    injection e1 with e1 e3 _
    replace e1 := e1.symm
    replace e3 := e3.symm
    subst e1 e3 e2
    clear hsv hps hx hnL
    go_wp2_with fail
    refine region_chainG (by kernel_rfl) (by kernel_rfl) [.quiet (.slice (some ⟨b, off, none⟩) q vc) 2, .quiet (.int .i64 k) 2, .quiet (.pointer (some ⟨b, off + k, none⟩)) 2, .quiet (.pointer (some ⟨b, off + k, none⟩)) 2, .quiet (.slice (some ⟨b2, off2, none⟩) nL sc) 2, .quiet (.pointer (some ⟨w1.heap.size, 2, none⟩)) 2, .quiet (.int .i64 j) 2, .quiet (.pointer (some ⟨b2, off2 + j * 3, none⟩)) 2, .quiet (.agg #[.int .i64 x.time, .bool x.key, .slice pa pn pc]) 2, .step 0, .step 1] [9, 10] (by kernel_rfl)
      (fun s r w' => match s with
        | 0 => Below Z0.heap.size Z0 w'
        | 1 => ∃ p, Z0.heap.size ≤ p ∧ Below Z0.heap.size Z0 w' ∧ Blk w' p #[.int .i64 0, .bool false, .slice none 0 0] 39 ∧ r 0 = .pointer (some ⟨p, 0, none⟩)
        | _ => ∃ p, Z0.heap.size ≤ p ∧ Below Z0.heap.size Z0 w' ∧ Blk w' p #[.int .i64 x.time, .bool x.key, .slice pa pn pc] 39 ∧ r 0 = .pointer (some ⟨p, 0, none⟩)
        ) ((Below.refl _ Z0).drew) ?step ?fin
    case step =>
      intro i o ho a' w' s r hI hfree hvals
      have hB : Below Z0.heap.size Z0 w' := by
        match s, hI with
        | 0, hI => exact hI
        | 1, ⟨_, _, hI, _⟩ => exact hI
        | n + 2, ⟨_, _, hI, _⟩ => exact hI
      have z0 := (hB.cell (p := ⟨b, off + k, none⟩) hbz).trans r0
      have z1 := (hB.cell (p := ⟨b2, off2 + j * 3, none⟩) hbz2).trans y0
      have z2 := (hB.cell (p := ⟨b2, off2 + j * 3 + 1, none⟩) hbz2).trans y1
      have z3 := (hB.cell (p := ⟨b2, off2 + j * 3 + 2, none⟩) hbz2).trans y2
      have z4 := (hB.cell (p := ⟨w1.heap.size, 2, none⟩) lx).trans x2
      match i, ho with
      | 0, ho =>
        simp at ho; subst ho
        have e10 : a'.eval (.tmp 10) = .slice (some ⟨b, off, none⟩) q vc := (hfree 10 (by kernel_rfl)).trans rfl
        show s ≤ 2 → _
        intro hs
        refine .inl ⟨rfl, ?_⟩
        generalize a'.eval = ρ at *
        simp [execOp, go_sem, e10]
      | 1, ho =>
        simp at ho; subst ho
        have e14 : a'.eval (.tmp 14) = .int .i64 k := (hfree 14 (by kernel_rfl)).trans rfl
        show s ≤ 2 → _
        intro hs
        refine .inl ⟨rfl, ?_⟩
        generalize a'.eval = ρ at *
        simp [execOp, go_sem, e14]
      | 2, ho =>
        simp at ho; subst ho
        have e76 : a'.eval (.tmp 76) = .slice (some ⟨b, off, none⟩) q vc := hvals 0 _ _ (by kernel_rfl) rfl rfl
        have e77 : a'.eval (.tmp 77) = .int .i64 k := hvals 1 _ _ (by kernel_rfl) rfl rfl
        show s ≤ 2 → _
        intro hs
        refine .inl ⟨rfl, ?_⟩
        generalize a'.eval = ρ at *
        simp [execOp, go_sem, e76, e77, hkqi]
      | 3, ho =>
        simp at ho; subst ho
        have e78 : a'.eval (.tmp 78) = .pointer (some ⟨b, off + k, none⟩) := hvals 2 _ _ (by kernel_rfl) rfl rfl
        show s ≤ 2 → _
        intro hs
        refine .inl ⟨rfl, ?_⟩
        generalize a'.eval = ρ at *
        simp [execOp, go_sem, e78]
      | 4, ho =>
        simp at ho; subst ho
        have e79 : a'.eval (.tmp 79) = .pointer (some ⟨b, off + k, none⟩) := hvals 3 _ _ (by kernel_rfl) rfl rfl
        show s ≤ 2 → _
        intro hs
        refine .inl ⟨rfl, ?_⟩
        generalize a'.eval = ρ at *
        simp [execOp, go_sem, e79, z0]
      | 5, ho =>
        simp at ho; subst ho
        have e12 : a'.eval (.tmp 12) = .pointer (some ⟨w1.heap.size, 0, none⟩) := (hfree 12 (by kernel_rfl)).trans rfl
        show s ≤ 2 → _
        intro hs
        refine .inl ⟨rfl, ?_⟩
        generalize a'.eval = ρ at *
        simp [execOp, go_sem, e12]
      | 6, ho =>
        simp at ho; subst ho
        have e81 : a'.eval (.tmp 81) = .pointer (some ⟨w1.heap.size, 2, none⟩) := hvals 5 _ _ (by kernel_rfl) rfl rfl
        show s ≤ 2 → _
        intro hs
        refine .inl ⟨rfl, ?_⟩
        generalize a'.eval = ρ at *
        simp [execOp, go_sem, e81, z4]
      | 7, ho =>
        simp at ho; subst ho
        have e80 : a'.eval (.tmp 80) = .slice (some ⟨b2, off2, none⟩) nL sc := hvals 4 _ _ (by kernel_rfl) rfl rfl
        have e82 : a'.eval (.tmp 82) = .int .i64 j := hvals 6 _ _ (by kernel_rfl) rfl rfl
        show s ≤ 2 → _
        intro hs
        refine .inl ⟨rfl, ?_⟩
        generalize a'.eval = ρ at *
        simp [execOp, go_sem, e80, e82, hjn]
      | 8, ho =>
        simp at ho; subst ho
        have e83 : a'.eval (.tmp 83) = .pointer (some ⟨b2, off2 + j * 3, none⟩) := hvals 7 _ _ (by kernel_rfl) rfl rfl
        show s ≤ 2 → _
        intro hs
        refine .inl ⟨rfl, ?_⟩
        generalize a'.eval = ρ at *
        simp [execOp, go_sem, e83, z1, z2, z3]
      | 9, ho =>
        simp at ho; subst ho
        show s = 0 → _ ∧ Oper.wp _ _ _ _ _ _
        intro hs
        subst hs
        refine ⟨rfl, ?_⟩
        have hI0 : Below Z0.heap.size Z0 w' := hI
        refine oper_wp_ok (v := .pointer (some ⟨w'.heap.size, 0, none⟩)) (w' := w'.alloc (.cells #[.int .i64 0, .bool false, .slice none 0 0] 39)) ?_ ⟨_, rfl, w'.heap.size, hI0.size, hI0.alloc hI0.size _, Blk.new _ _ _, updR_at _ _ _⟩
        generalize a'.eval = ρ at *
        simp [execOp, go_sem]
      | 10, ho =>
        simp at ho; subst ho
        have e15 : a'.eval (.tmp 15) = r 0 := hvals 9 _ _ (by kernel_rfl) rfl rfl
        have e84 : a'.eval (.tmp 84) = .agg #[.int .i64 x.time, .bool x.key, .slice pa pn pc] := hvals 8 _ _ (by kernel_rfl) rfl rfl
        show s = 1 → _ ∧ Oper.wp _ _ _ _ _ _
        intro hs
        subst hs
        refine ⟨rfl, ?_⟩
        obtain ⟨p, hp, hB2, hblk, hr⟩ := hI
        rw [hr] at e15
        obtain ⟨t0, t1, t2⟩ := hblk.three
        have fr := hblk.free
        refine oper_wp_skip (w' := ((w'.setCell ⟨p, 0, none⟩ (.int .i64 x.time)).setCell ⟨p, 1, none⟩ (.bool x.key)).setCell ⟨p, 2, none⟩ (.slice pa pn pc)) ?_ ⟨_, rfl, p, hp, ?_, ?_, by rw [updR_ne (by omega)]; exact hr⟩
        · generalize a'.eval = ρ at *
          simp [execOp, go_sem, e15, e84, t0, t1, t2, fr]
        · exact ((hB2.setCell hp _).setCell hp _).setCell hp _
        · exact ((hblk.set 0 (.int .i64 x.time)).set 1 (.bool x.key)).set 2 (.slice pa pn pc)
    case fin =>
      rintro r Y2 ⟨p, hp, bz, KF2', hr⟩
      simp only [putC, Ck.out, hr, Act.put, List.setIfInBounds_toArray, List.set_cons_succ, List.set_cons_zero]
      have hps2 := hp
      have HB2 : Hid (Below w1.heap.size w1 Y2) := HBZ.out.trans (bz.mono HBZ.out.size)
      have KX2 : Hid (Blk Y2 w1.heap.size #[.int .i64 m, .int .i64 g, .int .i64 j] 41) := KXZ.out.below bz KXZ.out.lt
      have KF2 : Hid (Blk Y2 p #[.int .i64 x.time, .bool x.key, .slice pa pn pc] 39) := KF2'
      have HPQ : Hid (StrsIn (fun b => (b < w.heap.size ∨ w.heap.size + 4 ≤ b) ∧ b < w1.heap.size) Y2 (.slice pa pn pc) x.parts) := HPS.out.below bz
      have HPR : Hid (∀ V1 V2 : World, (∀ c, c ≠ w1.heap.size → V1.heap[c]? = Y2.heap[c]?) → V1.heap.size = Y2.heap.size → (∀ c, c ≠ w.heap.size + 1 + 1 → c ≠ w.heap.size + 1 + 1 + 1 → V2.heap[c]? = V1.heap[c]?) → V2.heap.size = V1.heap.size → StrsIn (fun _ => True) V2 (.slice pa pn pc) x.parts) := fun V1 V2 h1 h2 h3 h4 => HPQ.out.to ⟨by omega, fun c _ hS => by rw [h3 c (by omega) (by omega), h1 c (by omega)]⟩ (fun _ _ _ => trivial)
      have lz := KXZ.out.lt
      have hpw : w1.heap.size < p := by omega
      clear bz HPS r0 lx KF2' hps2 hr y0 y1 y2 x0 x1 x2
      have FB := HS1.out Y2 HB2.out
      obtain ⟨k0', k1, k2⟩ := FB.1.1.1.three
      obtain ⟨j0, j1, j2⟩ := FB.1.1.2.three
      obtain ⟨p0, p1, p2⟩ := FB.1.2.1.1.three
      obtain ⟨q0, q1, q2⟩ := FB.1.2.1.2.three
      have fp := FB.1.2.1.1.free
      have fq := FB.1.2.1.2.free
      have lp := FB.1.2.1.1.lt
      have lq := FB.1.2.1.2.lt
      have lj := FB.1.1.2.lt
      have lk := FB.1.1.1.lt
      obtain ⟨x0, x1, x2⟩ := KX2.out.three
      obtain ⟨y0, y1, y2⟩ := KF2.out.three
      have fx := KX2.out.free
      have lx := KX2.out.lt
      have ly := KF2.out.lt
      by_cases h3 : m = 3 ∧ upto < x.time
      · have HNN : Hid (N = none) := by show _ = _; rw [HNA.out]; unfold tryAt; rw [← HXE.out, if_pos h3]
        have h31 : (m == 3) = true := by simpa using h3.1
        have h32 : upto < x.time := h3.2
        clear h3 FB
        go_wp2_with fail
        obtain ⟨n1, n2, n3⟩ := HNONE.out _ _ HB2.out rfl
        obtain ⟨u0, u1, u2⟩ := n1.three
        obtain ⟨v0, v1, v2⟩ := n2.three
        rw [HNN.out]
        exact bodyPost_ret (v := .tuple #[.agg #[.int .i64 m, .int .i64 g, .int .i64 j], .agg #[.int .i64 0, .bool false, .slice none 0 0], .bool false, .bool false]) (by simp [results, Try.results25, go_sem, u0, u1, u2, v0, v1, v2]) rfl (NxPost.of ⟨m, g, j, Fr.zero, .slice none 0 0, false, false, rfl, StrsIn.nil _ _, ⟨rfl, rfl, rfl, rfl, rfl, rfl⟩, n3⟩)
      · have HNS : Hid (N = some (k, j, false)) := by show _ = _; rw [HNA.out]; unfold tryAt; rw [← HXE.out, if_neg h3]
        have hcond : (m == 3) = false ∨ ((m == 3) = true ∧ ¬ upto < x.time) := by
          by_cases h : m = 3
          · exact .inr ⟨by simpa using h, fun h' => h3 ⟨h, h'⟩⟩
          · exact .inl (by simpa using h)
        obtain ⟨V1, hV1⟩ : ∃ V, V = (Y2.setCell ⟨w1.heap.size, 1, none⟩ (.int .i64 (first + k))).setCell ⟨w1.heap.size, 2, none⟩ (.int .i64 (j + 1)) := ⟨_, rfl⟩
        have BV1 : Hid (Below w1.heap.size w1 V1) := by rw [hV1]; exact (HB2.out.setCell (Nat.le_refl _) _).setCell (Nat.le_refl _) _
        have KV1 : Hid (Blk V1 w1.heap.size #[.int .i64 m, .int .i64 (first + k), .int .i64 (j + 1)] 41) := by
          have := (KX2.out.set 1 (.int .i64 (first + k))).set 2 (.int .i64 (j + 1))
          rw [hV1]; simpa [Hid] using this
        have hV1o : ∀ c, c ≠ w1.heap.size → V1.heap[c]? = Y2.heap[c]? := fun c hc => by rw [hV1, Below.heap_setCell _ _ _ _ (by exact hc), Below.heap_setCell _ _ _ _ (by exact hc)]
        have hV1s : V1.heap.size = Y2.heap.size := by rw [hV1]; simp
        have KFV : Hid (Blk V1 p #[.int .i64 x.time, .bool x.key, .slice pa pn pc] 39) := (hV1o _ (by omega)).trans KF2.out
        have HPZ : Hid (∀ V2 : World, (∀ c, c ≠ w.heap.size + 1 + 1 → c ≠ w.heap.size + 1 + 1 + 1 → V2.heap[c]? = V1.heap[c]?) → V2.heap.size = V1.heap.size → StrsIn (fun _ => True) V2 (.slice pa pn pc) x.parts) := fun V2 h1 h2 => HPR.out V1 V2 hV1o hV1s h1 h2
        clear h3 FB hV1o hV1s HPR HPQ
        go_upto_region 17 with fail
        go_cut [93] (fun s93 wc => s93 = .bool false ∧ wc = Y2)
        case first =>
          rcases hcond with hcd | ⟨hcd, hcd2⟩
          all_goals
            go_wp2_with fail
            go_meet
            case rel => exact ⟨rfl, rfl⟩
        case rest =>
          obtain ⟨rfl, rfl⟩ := hcut
          go_wp2_with fail
          rw [← hV1]
          clear hV1 hcond k0' k1 k2 j0 j1 j2 p0 p1 p2 q0 q1 q2 fp fq lj lk x0 x1 x2 y0 y1 y2 fx lx ly
          have F1 := HS1.out V1 BV1.out
          have BA : Hid (Blk V1 (w.heap.size + 1 + 1) #[.int .i64 0, .int .i64 0, .int .i64 0] 41) := F1.1.2.1.1
          have BI : Hid (Blk V1 (w.heap.size + 1 + 1 + 1) #[.int .i64 0, .bool false, .slice none 0 0] 39) := F1.1.2.1.2
          have BW : Hid (Below w.heap.size w V1) := F1.1.2.2
          have hn1 : ¬ w1.heap.size = w.heap.size + 1 + 1 := by omega
          have hn2 : ¬ w1.heap.size = w.heap.size + 1 + 1 + 1 := by omega
          have hn3 : ¬ p = w.heap.size + 1 + 1 := by omega
          have hn4 : ¬ p = w.heap.size + 1 + 1 + 1 := by omega
          clear F1
          obtain ⟨EW, hEW⟩ : ∃ E : World → Prop, E = fun V => (∀ c, c ≠ w.heap.size + 1 + 1 → c ≠ w.heap.size + 1 + 1 + 1 → V.heap[c]? = V1.heap[c]?) ∧ V.heap.size = V1.heap.size ∧ Below w.heap.size w V := ⟨_, rfl⟩
          refine region_chainG (by kernel_rfl) (by kernel_rfl) [.quiet (.agg #[.int .i64 m, .int .i64 (first + k), .int .i64 (j + 1)]) 4, .quiet (.agg #[.int .i64 x.time, .bool x.key, .slice pa pn pc]) 4, .quiet (.bool false) 4, .step 0, .step 1, .step 2, .step 3] [3, 4, 5, 6] (by kernel_rfl)
            (fun s r w' => match s with
              | 0 => EW w' ∧ Blk w' (w.heap.size + 1 + 1) #[.int .i64 0, .int .i64 0, .int .i64 0] 41 ∧ Blk w' (w.heap.size + 1 + 1 + 1) #[.int .i64 0, .bool false, .slice none 0 0] 39
              | 1 => EW w' ∧ Blk w' (w.heap.size + 1 + 1) #[.int .i64 m, .int .i64 (first + k), .int .i64 (j + 1)] 41 ∧ Blk w' (w.heap.size + 1 + 1 + 1) #[.int .i64 0, .bool false, .slice none 0 0] 39
              | 2 => EW w' ∧ Blk w' (w.heap.size + 1 + 1) #[.int .i64 m, .int .i64 (first + k), .int .i64 (j + 1)] 41 ∧ Blk w' (w.heap.size + 1 + 1 + 1) #[.int .i64 x.time, .bool x.key, .slice pa pn pc] 39
              | 3 => EW w' ∧ Blk w' (w.heap.size + 1 + 1) #[.int .i64 m, .int .i64 (first + k), .int .i64 (j + 1)] 41 ∧ Blk w' (w.heap.size + 1 + 1 + 1) #[.int .i64 x.time, .bool x.key, .slice pa pn pc] 39 ∧ r 2 = .bool true
              | _ => EW w' ∧ Blk w' (w.heap.size + 1 + 1) #[.int .i64 m, .int .i64 (first + k), .int .i64 (j + 1)] 41 ∧ Blk w' (w.heap.size + 1 + 1 + 1) #[.int .i64 x.time, .bool x.key, .slice pa pn pc] 39 ∧ r 2 = .bool true ∧ r 3 = .bool false
              ) (by rw [hEW]; exact ⟨⟨fun c _ _ => rfl, rfl, BW.out.drew⟩, BA.out.drew, BI.out.drew⟩) ?step ?fin
          case step =>
            intro i o ho a' w' s r hI hfree hvals
            have hE : EW w' := by
              match s, hI with
              | 0, hI => exact hI.1
              | 1, hI => exact hI.1
              | 2, hI => exact hI.1
              | 3, hI => exact hI.1
              | n + 4, hI => exact hI.1
            rw [hEW] at hE
            have kx : Blk w' w1.heap.size #[.int .i64 m, .int .i64 (first + k), .int .i64 (j + 1)] 41 := (hE.1 _ hn1 hn2).trans KV1.out
            have kf : Blk w' p #[.int .i64 x.time, .bool x.key, .slice pa pn pc] 39 := (hE.1 _ hn3 hn4).trans KFV.out
            obtain ⟨a0, a1, a2⟩ := kx.three
            obtain ⟨b0, b1, b2⟩ := kf.three
            match i, ho with
            | 0, ho =>
              simp at ho; subst ho
              have e12 : a'.eval (.tmp 12) = .pointer (some ⟨w1.heap.size, 0, none⟩) := (hfree 12 (by kernel_rfl)).trans rfl
              show s ≤ 4 → _
              intro hs
              refine .inl ⟨rfl, ?_⟩
              generalize a'.eval = ρ at *
              simp [execOp, go_sem, e12, a0, a1, a2]
            | 1, ho =>
              simp at ho; subst ho
              have e15 : a'.eval (.tmp 15) = .pointer (some ⟨p, 0, none⟩) := (hfree 15 (by kernel_rfl)).trans rfl
              show s ≤ 4 → _
              intro hs
              refine .inl ⟨rfl, ?_⟩
              generalize a'.eval = ρ at *
              simp [execOp, go_sem, e15, b0, b1, b2]
            | 2, ho =>
              simp at ho; subst ho
              have e13 : a'.eval (.tmp 13) = .bool false := (hfree 13 (by kernel_rfl)).trans rfl
              show s ≤ 4 → _
              intro hs
              refine .inl ⟨rfl, ?_⟩
              generalize a'.eval = ρ at *
              simp [execOp, go_sem, e13]
            | 3, ho =>
              simp at ho; subst ho
              have e6 : a'.eval (.tmp 6) = .pointer (some ⟨w.heap.size + 1 + 1, 0, none⟩) := (hfree 6 (by kernel_rfl)).trans rfl
              have e105 : a'.eval (.tmp 105) = .agg #[.int .i64 m, .int .i64 (first + k), .int .i64 (j + 1)] := hvals 0 _ _ (by kernel_rfl) rfl rfl
              show s = 0 → _ ∧ Oper.wp _ _ _ _ _ _
              intro hs
              subst hs
              refine ⟨rfl, ?_⟩
              obtain ⟨_, c1, c2⟩ := hI
              obtain ⟨t0, t1, t2⟩ := c1.three
              have fr := c1.free
              refine oper_wp_skip (w' := ((w'.setCell ⟨w.heap.size + 1 + 1, 0, none⟩ (.int .i64 m)).setCell ⟨w.heap.size + 1 + 1, 1, none⟩ (.int .i64 (first + k))).setCell ⟨w.heap.size + 1 + 1, 2, none⟩ (.int .i64 (j + 1))) ?_ ⟨_, rfl, ?_, ?_, ?_⟩
              · generalize a'.eval = ρ at *
                simp [execOp, go_sem, e6, e105, t0, t1, t2, fr]
              · rw [hEW]
                refine ⟨fun c h1 h2 => by rw [Below.heap_setCell _ _ _ _ (by exact h1), Below.heap_setCell _ _ _ _ (by exact h1), Below.heap_setCell _ _ _ _ (by exact h1)]; exact hE.1 c h1 h2, by simp; exact hE.2.1, ?_⟩
                exact ((hE.2.2.setCell (by show _ ≤ w.heap.size + 1 + 1; omega) _).setCell (by show _ ≤ w.heap.size + 1 + 1; omega) _).setCell (by show _ ≤ w.heap.size + 1 + 1; omega) _
              · exact ((c1.set 0 (.int .i64 m)).set 1 (.int .i64 (first + k))).set 2 (.int .i64 (j + 1))
              · exact ((c2.other (a := ⟨w.heap.size + 1 + 1, 0, none⟩) (by show w.heap.size + 1 + 1 + 1 ≠ w.heap.size + 1 + 1; omega) _).other (a := ⟨w.heap.size + 1 + 1, 1, none⟩) (by show w.heap.size + 1 + 1 + 1 ≠ w.heap.size + 1 + 1; omega) _).other (a := ⟨w.heap.size + 1 + 1, 2, none⟩) (by show w.heap.size + 1 + 1 + 1 ≠ w.heap.size + 1 + 1; omega) _
            | 4, ho =>
              simp at ho; subst ho
              have e7 : a'.eval (.tmp 7) = .pointer (some ⟨w.heap.size + 1 + 1 + 1, 0, none⟩) := (hfree 7 (by kernel_rfl)).trans rfl
              have e106 : a'.eval (.tmp 106) = .agg #[.int .i64 x.time, .bool x.key, .slice pa pn pc] := hvals 1 _ _ (by kernel_rfl) rfl rfl
              show s = 1 → _ ∧ Oper.wp _ _ _ _ _ _
              intro hs
              subst hs
              refine ⟨rfl, ?_⟩
              obtain ⟨_, c1, c2⟩ := hI
              obtain ⟨t0, t1, t2⟩ := c2.three
              have fr := c2.free
              refine oper_wp_skip (w' := ((w'.setCell ⟨w.heap.size + 1 + 1 + 1, 0, none⟩ (.int .i64 x.time)).setCell ⟨w.heap.size + 1 + 1 + 1, 1, none⟩ (.bool x.key)).setCell ⟨w.heap.size + 1 + 1 + 1, 2, none⟩ (.slice pa pn pc)) ?_ ⟨_, rfl, ?_, ?_, ?_⟩
              · generalize a'.eval = ρ at *
                simp [execOp, go_sem, e7, e106, t0, t1, t2, fr]
              · rw [hEW]
                refine ⟨fun c h1 h2 => by rw [Below.heap_setCell _ _ _ _ (by exact h2), Below.heap_setCell _ _ _ _ (by exact h2), Below.heap_setCell _ _ _ _ (by exact h2)]; exact hE.1 c h1 h2, by simp; exact hE.2.1, ?_⟩
                exact ((hE.2.2.setCell (by show _ ≤ w.heap.size + 1 + 1 + 1; omega) _).setCell (by show _ ≤ w.heap.size + 1 + 1 + 1; omega) _).setCell (by show _ ≤ w.heap.size + 1 + 1 + 1; omega) _
              · exact ((c1.other (a := ⟨w.heap.size + 1 + 1 + 1, 0, none⟩) (by show w.heap.size + 1 + 1 ≠ w.heap.size + 1 + 1 + 1; omega) _).other (a := ⟨w.heap.size + 1 + 1 + 1, 1, none⟩) (by show w.heap.size + 1 + 1 ≠ w.heap.size + 1 + 1 + 1; omega) _).other (a := ⟨w.heap.size + 1 + 1 + 1, 2, none⟩) (by show w.heap.size + 1 + 1 ≠ w.heap.size + 1 + 1 + 1; omega) _
              · exact ((c2.set 0 (.int .i64 x.time)).set 1 (.bool x.key)).set 2 (.slice pa pn pc)
            | 5, ho =>
              simp at ho; subst ho
              have ec0 : a'.eval (.const (.bool true)) = .bool true := rfl
              show s = 2 → _ ∧ Oper.wp _ _ _ _ _ _
              intro hs
              subst hs
              refine ⟨rfl, ?_⟩
              obtain ⟨c0, c1, c2⟩ := hI
              refine oper_wp_ok (v := .bool true) (w' := w') ?_ ⟨_, rfl, c0, c1, c2, updR_at _ _ _⟩
              generalize a'.eval = ρ at *
              simp [execOp, go_sem, ec0]
            | 6, ho =>
              simp at ho; subst ho
              have e107 : a'.eval (.tmp 107) = .bool false := hvals 2 _ _ (by kernel_rfl) rfl rfl
              show s = 3 → _ ∧ Oper.wp _ _ _ _ _ _
              intro hs
              subst hs
              refine ⟨rfl, ?_⟩
              obtain ⟨c0, c1, c2, c3⟩ := hI
              refine oper_wp_ok (v := .bool false) (w' := w') ?_ ⟨_, rfl, c0, c1, c2, by rw [updR_ne (by omega)]; exact c3, updR_at _ _ _⟩
              generalize a'.eval = ρ at *
              simp [execOp, go_sem, e107]
          case fin =>
            rintro r V2 ⟨d0, d1, d2, d3, d4⟩
            simp only [putC, Ck.out, d3, d4, Act.put, List.setIfInBounds_toArray, List.set_cons_succ, List.set_cons_zero]
            rw [hEW] at d0
            have HPV : Hid (StrsIn (fun _ => True) V2 (.slice pa pn pc) x.parts) := HPZ.out V2 d0.1 d0.2.1
            have BV2 : Hid (Below w.heap.size w V2) := d0.2.2
            obtain ⟨u0, u1, u2⟩ := d1.three
            obtain ⟨v0, v1, v2⟩ := d2.three
            clear d0 d1 d2 hEW HPZ BA BI BW KV1 KFV BV1
            go_wp2_with fail
            rw [HNS.out]
            exact bodyPost_ret (v := .tuple #[.agg #[.int .i64 m, .int .i64 (first + k), .int .i64 (j + 1)], .agg #[.int .i64 x.time, .bool x.key, .slice pa pn pc], .bool true, .bool false]) (by simp [results, Try.results25, go_sem, u0, u1, u2, v0, v1, v2]) rfl (NxPost.of ⟨m, (first + k), (j + 1), x, .slice pa pn pc, true, false, rfl, HPV.out, ⟨rfl, by simp, by simp, HXE.out, rfl, rfl⟩, BV2.out⟩)

end Go.Proofs.Ytnpaejknoipicae

namespace Go.Proofs.Ytnpaejknoipicae
open Go.RowKit

theorem refNextOf_any (first : Int) (gv ov : Value) (L : List (List Fr)) (O : List Fr) (m g f upto : Int) (w : World) (hg : GrsIn (fun _ => True) w gv L) (ho : FrsIn (fun _ => True) w ov O) (hs : stchk first L O = 0) (hc : curE m g f = 0) :
    Calls Try.prog 25 #[.agg #[.int .i64 first, gv, ov], .agg #[.int .i64 m, .int .i64 g, .int .i64 f], .int .i64 upto] w (NxPost (nxt m (allG L O) (g - first) f upto) m g f first (allG L O) w) := by
  by_cases h1 : m = 2 ∨ (allG L O).length = 0
  · have e : nxt m (allG L O) (g - first) f upto = none := by unfold nxt; rw [if_pos h1]
    rw [e]
    exact (refNextOf_none first gv ov L O m g f upto w hg ho hs hc h1).mono fun e w' h => NxPost.of h
  have hm2 : ¬ m = 2 := fun h => h1 (.inl h)
  have hq0 : ¬ (allG L O).length = 0 := fun h => h1 (.inr h)
  by_cases h2 : g - first < 0 ∨ ((allG L O).length : Int) ≤ g - first ∨ ((grAt (allG L O) (g - first).toNat).length : Int) < f
  · have e : nxt m (allG L O) (g - first) f upto = tryAt m upto (allG L O) (if m = 1 then (allG L O).length - 1 else 0) 0 true := by unfold nxt; rw [if_neg h1, if_pos h2]
    rw [e]
    by_cases hm1 : m = 1
    · rw [if_pos hm1]
      exact (refNextOf_j1 first gv ov L O m g f upto w hg ho hs hc hm2 hq0 h2 hm1).mono fun e w' h => NxPost.of h
    · rw [if_neg hm1]
      exact (refNextOf_j3 first gv ov L O m g f upto w hg ho hs hc hm2 hq0 h2 hm1).mono fun e w' h => NxPost.of h
  · obtain ⟨k, hk⟩ : ∃ k : Nat, g - first = k := ⟨(g - first).toNat, by omega⟩
    have hkt : (g - first).toNat = k := by omega
    have hkl : k < (allG L O).length := by omega
    have hfl : f ≤ ((grAt (allG L O) k).length : Int) := by rw [hkt] at h2; omega
    by_cases h3 : f = ((grAt (allG L O) k).length : Int)
    · by_cases h4 : k + 1 = (allG L O).length
      · have e : nxt m (allG L O) (g - first) f upto = none := by unfold nxt; rw [if_neg h1, if_neg h2, hkt, if_pos h3, if_pos h4]
        rw [e]
        exact refNextOf_end first gv ov L O m g f upto w hg ho hs hc k hm2 hk hkl hfl h3 h4
      · have e : nxt m (allG L O) (g - first) f upto = tryAt m upto (allG L O) (k + 1) 0 false := by unfold nxt; rw [if_neg h1, if_neg h2, hkt, if_pos h3, if_neg h4]
        rw [e]
        exact refNextOf_beh first gv ov L O m g f upto w hg ho hs hc k hm2 hk hkl hfl h3 h4
    · have e : nxt m (allG L O) (g - first) f upto = tryAt m upto (allG L O) k f.toNat false := by unfold nxt; rw [if_neg h1, if_neg h2, hkt, if_neg h3]
      rw [e]
      exact refNextOf_in first gv ov L O m g f upto w hg ho hs hc k hm2 hk hkl hfl h3

end Go.Proofs.Ytnpaejknoipicae

namespace Go.Proofs.Ytnpaejknoipicae
open Go.RowKit

/-- the law's own frame -/
def pf (t : Int) (k : Bool) : Fr := ⟨t, k, [⟨#[97, 98, 99]⟩]⟩

set_option maxHeartbeats 400000 in
theorem pic_any (t : Int) (k : Bool) (w : World) :
    Calls Try.prog 38 #[.int .i64 t, .bool k] w fun e w' => e = .returned (.agg #[.int .i64 t, .bool k, .slice (some ⟨w.heap.size + 1, 0, none⟩) 1 1]) ∧ StrsIn (fun g => w.heap.size ≤ g) w' (.slice (some ⟨w.heap.size + 1, 0, none⟩) 1 1) [⟨#[97, 98, 99]⟩] ∧ Below w.heap.size w w' := by
  go_enter Try.func38, Try.ntmps38
  go_wp2
  refine bodyPost_ret (v := .agg #[.int .i64 t, .bool k, .slice (some ⟨w.heap.size + 1, 0, none⟩) 1 1]) (by simp [results, Try.results38, go_sem]) rfl ⟨rfl, ?_, ?_⟩
  · have hk := Blk.new (w.alloc (.cells #[.int .i64 t, .bool k, .slice (some ⟨w.heap.size + 1, 0, none⟩) 1 1] 39)) #[.string ⟨#[97, 98, 99]⟩] 9
    simp only [World.size_alloc] at hk
    refine ⟨⟨rfl, .inr ⟨w.heap.size + 1, 0, 1, rfl, hk.lt, fun j u hj => ?_⟩⟩, by simp, fun g hg _ => ?_⟩
    · rw [Nat.zero_add]
      exact hk.cell (by simpa using hj)
    · simp [Value.ownBlock] at hg
      subst hg
      exact ⟨by omega, hk.lt⟩
  · exact ((Below.refl _ w).alloc (Nat.le_refl _) _).alloc (by simp) _

end Go.Proofs.Ytnpaejknoipicae

namespace Go.Proofs.Ytnpaejknoipicae
open Go.RowKit

theorem gb_all : groupsE [pf 1 false, pf 2 true, pf 3 false, pf 4 true] = 0 ∧ groupsR [pf 1 false, pf 2 true, pf 3 false, pf 4 true] = ([[pf 2 true, pf 3 false]], [pf 4 true]) := ⟨by decide, by decide⟩
theorem gb_chk : gchk [pf 4 true] = 0 ∧ gsize [pf 4 true] = 3 := ⟨by decide, by decide⟩

end Go.Proofs.Ytnpaejknoipicae

namespace Go.Proofs.Ytnpaejknoipicae
open Go.RowKit

theorem FrsIn.pair {S : Nat → Prop} {w : World} {b : Nat} {f g : Fr} {pv qv : Value} (hb : Blk w b #[.int .i64 f.time, .bool f.key, pv, .int .i64 g.time, .bool g.key, qv] 39) (hS : S b) (hp : StrsIn S w pv f.parts) (hq : StrsIn S w qv g.parts) : FrsIn S w (.slice (some ⟨b, 0, none⟩) 2 2) [f, g] := by
  refine ⟨some ⟨b, 0, none⟩, 2, rfl, Nat.le_refl _, by omega, fun k hk => ⟨b, 0, rfl, hb.lt, hS, ?_⟩⟩
  have : k = 0 ∨ k = 1 := by simp at hk; omega
  rcases this with rfl | rfl
  · exact ⟨pv, hb.cell rfl, hb.cell rfl, hb.cell rfl, hp⟩
  · exact ⟨qv, hb.cell rfl, hb.cell rfl, hb.cell rfl, hq⟩
theorem GrsIn.pair {S : Nat → Prop} {w : World} {b : Nat} {f g : List Fr} {pv qv : Value} (hb : Blk w b #[pv, qv] 34) (hS : S b) (hp : FrsIn S w pv f) (hq : FrsIn S w qv g) : GrsIn S w (.slice (some ⟨b, 0, none⟩) 2 2) [f, g] := by
  refine ⟨some ⟨b, 0, none⟩, 2, rfl, Nat.le_refl _, by omega, fun k hk => ⟨b, 0, rfl, hb.lt, hS, ?_⟩⟩
  have : k = 0 ∨ k = 1 := by simp at hk; omega
  rcases this with rfl | rfl
  · exact ⟨pv, hb.cell rfl, hp⟩
  · exact ⟨qv, hb.cell rfl, hq⟩

def picF (t : Int) (k : Bool) : Fr := ⟨t, k, [⟨#[97, 98, 99]⟩]⟩
def shelfL : List (List Fr) := [[picF 10 true, picF 12 false], [picF 20 true]]
def shelfO : List Fr := [picF 30 true]

set_option maxHeartbeats 4000000 in
set_option maxRecDepth 100000 in
theorem shelf_any (w : World) :
    Calls Try.prog 37 #[] w fun e w' => ∃ gb ob, e = .returned (.agg #[.int .i64 3, .slice (some ⟨gb, 0, none⟩) 2 2, .slice (some ⟨ob, 0, none⟩) 1 1]) ∧ GrsIn (fun _ => True) w' (.slice (some ⟨gb, 0, none⟩) 2 2) shelfL ∧ FrsIn (fun _ => True) w' (.slice (some ⟨ob, 0, none⟩) 1 1) shelfO ∧ Below w.heap.size w w' := by
  have HPIC : Hid (∀ (t : Int) (k : Bool) (U : World), Calls Try.prog 38 #[.int .i64 t, .bool k] U fun e w' => ∃ p, e = .returned (.agg #[.int .i64 t, .bool k, .slice (some ⟨p, 0, none⟩) 1 1]) ∧ Hid (StrsIn (fun g => U.heap.size ≤ g) w' (.slice (some ⟨p, 0, none⟩) 1 1) [⟨#[97, 98, 99]⟩]) ∧ Below U.heap.size U w') := fun t k U => by
    refine (pic_any t k U).mono ?_
    rintro e w' ⟨rfl, h1, h2⟩
    exact ⟨_, rfl, h1, h2⟩
  go_enter Try.func37, Try.ntmps37
  go_wp2_with fail
  obtain ⟨w0, hw0⟩ : ∃ w0, w0 = w.alloc (.cells #[.int .i64 0, .slice none 0 0, .slice none 0 0] 36) := ⟨_, rfl⟩
  have B0 : Below w.heap.size w w0 := by rw [hw0]; exact (Below.refl _ _).alloc (Nat.le_refl _) _
  have R0 : Blk w0 w.heap.size #[.int .i64 0, .slice none 0 0, .slice none 0 0] 36 := by rw [hw0]; exact Blk.new _ _ _
  rw [← hw0]
  clear hw0
  refine (HPIC.out _ _ _).mono ?_
  rintro e w1 ⟨p1, rfl, S1, b1⟩
  go_wp2_with fail
  refine (HPIC.out _ _ _).mono ?_
  rintro e w2 ⟨p2, rfl, S2, b2⟩
  go_wp2_with fail
  have z0 := R0.lt
  have s1 := b1.size
  have s2 := b2.size
  have PA : StrsIn (fun g => w.heap.size < g) w2 (.slice (some ⟨p1, 0, none⟩) 1 1) [⟨#[97, 98, 99]⟩] := (S1.out.mono fun g _ h => by omega).below b2
  have PB : StrsIn (fun g => w.heap.size < g) w2 (.slice (some ⟨p2, 0, none⟩) 1 1) [⟨#[97, 98, 99]⟩] := S2.out.mono fun g _ h => by omega
  have R2 : Blk w2 w.heap.size #[.int .i64 0, .slice none 0 0, .slice none 0 0] 36 := (R0.below b1 R0.lt).below b2 (by omega)
  have B2 : Below w.heap.size w w2 := (B0.trans (b1.mono B0.size)).trans (b2.mono (by omega))
  obtain ⟨V2, hV2⟩ : ∃ V2, V2 = w2.alloc (.cells #[.int .i64 10, .bool true, .slice (some ⟨p1, 0, none⟩) 1 1, .int .i64 12, .bool false, .slice (some ⟨p2, 0, none⟩) 1 1] 39) := ⟨_, rfl⟩
  have FA : Hid (FrsIn (fun g => w.heap.size < g) V2 (.slice (some ⟨w2.heap.size, 0, none⟩) 2 2) [picF 10 true, picF 12 false]) := by
    rw [hV2]; exact FrsIn.pair (f := picF 10 true) (g := picF 12 false) (Blk.new w2 _ _) (by omega) (PA.alloc _) (PB.alloc _)
  have RV2 : Hid (Blk V2 w.heap.size #[.int .i64 0, .slice none 0 0, .slice none 0 0] 36) := by rw [hV2]; exact R2.alloc _
  have BV2 : Hid (Below w.heap.size w V2) := by rw [hV2]; exact B2.alloc B2.size _
  rw [← hV2]
  have sV2 : w2.heap.size < V2.heap.size := by rw [hV2]; simp
  clear hV2 PA PB R2 B2 S1 S2 b1 b2 R0 B0
  refine (HPIC.out _ _ _).mono ?_
  rintro e w3 ⟨p3, rfl, S3, b3⟩
  go_wp2_with fail
  have s3 := b3.size
  obtain ⟨V3, hV3⟩ : ∃ V3, V3 = (w3.alloc (.cells #[.int .i64 20, .bool true, .slice (some ⟨p3, 0, none⟩) 1 1] 39)).alloc (.cells #[.slice (some ⟨w2.heap.size, 0, none⟩) 2 2, .slice (some ⟨w3.heap.size, 0, none⟩) 1 1] 34) := ⟨_, rfl⟩
  have GV : Hid (GrsIn (fun g => w.heap.size < g) V3 (.slice (some ⟨w3.heap.size + 1, 0, none⟩) 2 2) shelfL) := by
    have hone : FrsIn (fun g => w.heap.size < g) (w3.alloc (.cells #[.int .i64 20, .bool true, .slice (some ⟨p3, 0, none⟩) 1 1] 39)) (.slice (some ⟨w3.heap.size, 0, none⟩) 1 1) [picF 20 true] := FrsIn.one (f := picF 20 true) (Blk.new w3 _ _) (by omega) ((S3.out.mono fun g _ h => (by omega)).alloc _)
    have hb : Blk V3 (w3.heap.size + 1) #[.slice (some ⟨w2.heap.size, 0, none⟩) 2 2, .slice (some ⟨w3.heap.size, 0, none⟩) 1 1] 34 := by
      have := Blk.new (w3.alloc (.cells #[.int .i64 20, .bool true, .slice (some ⟨p3, 0, none⟩) 1 1] 39)) #[.slice (some ⟨w2.heap.size, 0, none⟩) 2 2, .slice (some ⟨w3.heap.size, 0, none⟩) 1 1] 34
      rw [hV3]; simpa using this
    exact GrsIn.pair hb (by omega) (by rw [hV3]; exact ((FA.out.below b3).alloc _).alloc _) (by rw [hV3]; exact hone.alloc _)
  have RV3 : Hid (Blk V3 w.heap.size #[.int .i64 0, .slice none 0 0, .slice none 0 0] 36) := by rw [hV3]; exact ((RV2.out.below b3 RV2.out.lt).alloc _).alloc _
  have BV3 : Hid (Below w.heap.size w V3) := by
    have h := BV2.out.trans (b3.mono BV2.out.size)
    rw [hV3]; exact (h.alloc h.size _).alloc (by have := h.size; simp; omega) _
  rw [← hV3]
  clear hV3 S3 b3 FA RV2 BV2
  refine (HPIC.out _ _ _).mono ?_
  rintro e w4 ⟨p4, rfl, S4, b4⟩
  have s4 := b4.size
  have r4 := RV3.out.lt
  have RW4 := RV3.out.below b4 RV3.out.lt
  obtain ⟨r0, r1, r2⟩ := RW4.three
  have fr := RW4.free
  have hlw : w.heap.size < w4.heap.size := RW4.lt
  have B4 : Below w.heap.size w w4 := BV3.out.trans (b4.mono BV3.out.size)
  obtain ⟨X, hX⟩ : ∃ X, X = ((w4.setCell ⟨w.heap.size, 0, none⟩ (.int .i64 3)).setCell ⟨w.heap.size, 1, none⟩ (.slice (some ⟨w3.heap.size + 1, 0, none⟩) 2 2)).setCell ⟨w.heap.size, 2, none⟩ (.slice (some ⟨w4.heap.size, 0, none⟩) 1 1) := ⟨_, rfl⟩
  have KX : Blk X w.heap.size #[.int .i64 3, .slice (some ⟨w3.heap.size + 1, 0, none⟩) 2 2, .slice (some ⟨w4.heap.size, 0, none⟩) 1 1] 36 := by
    rw [hX]; exact ((RW4.set 0 (.int .i64 3)).set 1 (.slice (some ⟨w3.heap.size + 1, 0, none⟩) 2 2)).set 2 (.slice (some ⟨w4.heap.size, 0, none⟩) 1 1)
  have hXo : ∀ g, g ≠ w.heap.size → X.heap[g]? = w4.heap[g]? := fun g hg => by
    rw [hX, Below.heap_setCell _ _ _ _ (by exact hg), Below.heap_setCell _ _ _ _ (by exact hg), Below.heap_setCell _ _ _ _ (by exact hg)]
  have hXs : X.heap.size = w4.heap.size := by rw [hX]; simp
  have BX : Below w.heap.size w X := by
    rw [hX]; exact ((B4.setCell (Nat.le_refl _) _).setCell (Nat.le_refl _) _).setCell (Nat.le_refl _) _
  obtain ⟨V5, hV5⟩ : ∃ V5, V5 = X.alloc (.cells #[.int .i64 30, .bool true, .slice (some ⟨p4, 0, none⟩) 1 1] 39) := ⟨_, rfl⟩
  have KV : Blk V5 w.heap.size #[.int .i64 3, .slice (some ⟨w3.heap.size + 1, 0, none⟩) 2 2, .slice (some ⟨w4.heap.size, 0, none⟩) 1 1] 36 := by rw [hV5]; exact KX.alloc _
  have G5 : Hid (GrsIn (fun _ => True) V5 (.slice (some ⟨w3.heap.size + 1, 0, none⟩) 2 2) shelfL) := by
    rw [hV5]
    exact GrsIn.alloc ((GV.out.below b4).to (S' := fun _ => True) ⟨by omega, fun g _ hg => hXo g (by omega)⟩ (fun _ _ _ => trivial)) _
  have O5 : Hid (FrsIn (fun _ => True) V5 (.slice (some ⟨w4.heap.size, 0, none⟩) 1 1) shelfO) := by
    have hn : Blk V5 w4.heap.size #[.int .i64 30, .bool true, .slice (some ⟨p4, 0, none⟩) 1 1] 39 := by
      rw [hV5, ← hXs]; exact Blk.new _ _ _
    have hs : StrsIn (fun _ => True) V5 (.slice (some ⟨p4, 0, none⟩) 1 1) [⟨#[97, 98, 99]⟩] := by
      rw [hV5]
      exact StrsIn.alloc (S4.out.to (S' := fun _ => True) ⟨by omega, fun g _ hg => hXo g (by omega)⟩ (fun _ _ _ => trivial)) _
    exact FrsIn.one (f := picF 30 true) hn trivial hs
  have B5 : Hid (Below w.heap.size w V5) := by rw [hV5]; exact BX.alloc BX.size _
  obtain ⟨c0, c1, c2⟩ := KV.three
  rw [hX] at hV5
  clear hX hXo hXs KV KX BX B4 RW4 b4 S4 GV RV3 BV3
  go_wp2_with fail
  rw [← hV5]
  exact bodyPost_ret (v := .agg #[.int .i64 3, .slice (some ⟨w3.heap.size + 1, 0, none⟩) 2 2, .slice (some ⟨w4.heap.size, 0, none⟩) 1 1]) (by simp [results, Try.results37, go_sem, c0, c1, c2]) rfl ⟨_, _, rfl, G5.out, O5.out, B5.out⟩

end Go.Proofs.Ytnpaejknoipicae

namespace Go.Proofs.Ytnpaejknoipicae

theorem shelf_chk : stchk 3 shelfL shelfO = 0 := by kernel_rfl
theorem shelf_addE : addsE 3 shelfL shelfO (picF 40 true) = 0 := by kernel_rfl
theorem shelf_addB : addsB 3 shelfL shelfO (picF 40 true) = true := by kernel_rfl
theorem shelf_addL : (addsL 3 shelfL shelfO (picF 40 true)).length = 3 := by kernel_rfl
theorem shelf_seekE : seekE 3 shelfL shelfO 25 = 0 := by kernel_rfl
theorem shelf_seekN : seekN 3 shelfL shelfO 25 = 4 := by kernel_rfl
theorem shelf_get5E : getE 3 shelfL shelfO 5 = 0 := by kernel_rfl
theorem shelf_get5G : getG 3 shelfL shelfO 5 = shelfO := by kernel_rfl
theorem shelf_get6E : getE 3 shelfL shelfO 6 = 5 := by kernel_rfl
theorem shelf_get6G : getG 3 shelfL shelfO 6 = [] := by kernel_rfl

end Go.Proofs.Ytnpaejknoipicae

namespace Go.Proofs.Ytnpaejknoipicae
open Go.RowKit

/-- an operation of such a region -/
inductive Cm where
  | quiet (v : Value) (lim : Nat)
  | step (s : Nat)
  | fin (t : Nat) (f : Value → Value)
  | box
def cmAt (ks : List Cm) (i : Nat) : Cm := (ks[i]?).getD (.quiet undef 0)
def Cm.out (r : Nat → Value) (b : Nat → Option Nat) (i : Nat) : Cm → Value
  | .quiet v _ => v
  | .step s => r s
  | .fin t f => f (r t)
  | .box => match b i with
    | some g => .pointer (some ⟨g, 0, none⟩)
    | none => undef
def Cm.isBox : Cm → Bool
  | .box => true
  | _ => false
def putM (r : Nat → Value) (b : Nat → Option Nat) : Nat → List Cm → List Oper → Act → Act
  | k, d :: ks, o :: l, a => putM r b (k + 1) ks l (a.put o.dst (d.out r b k))
  | _, _, _, a => a
def updO (b : Nat → Option Nat) (i : Nat) (g : Nat) : Nat → Option Nat := fun j => if j = i then some g else b j
/-- the steps' places; what waits for what -/
def boxesOk (ks : List Cm) (l : List Oper) (st : List Nat) (n : Nat) : Bool :=
  decide (ks.length = l.length) && (l.all fun o => match o.dst with | some k => decide (k < n) | none => true) &&
  ((List.range st.length).all fun s => match st[s]? with
    | some i => decide (i < l.length) && (match cmAt ks i with | .step t => t == s | _ => false) && (s == 0 || (match st[s - 1]? with | some j => waits l i j | none => false))
    | none => false) &&
  ((List.range l.length).all fun i => match cmAt ks i with
    | .quiet _ lim => decide (st.length ≤ lim) || (match st[lim]? with | some j => waits l j i | none => false)
    | .step t => st[t]? == some i
    | .fin t _ => (List.range l.length).any fun j => waits l i j && (match cmAt ks j with | .step t' => t' == t | .fin t' _ => t' == t | _ => false)
    | .box => true)

section
variable {P : Program} {Q : Exit → Act → World → Prop}

structure RBx (ks : List Cm) (l : List Oper) (n m : Nat) (I : Nat → (Nat → Value) → (Nat → Option Nat) → World → Prop) (ls : Nat → Bool) (vs : Nat → Value) (s : Nat) (r : Nat → Value) (b : Nat → Option Nat) (w' : World) : Prop where
  lt : ∀ i, ls i = true → i < n
  steps : ∀ i t, i < n → cmAt ks i = .step t → (ls i = true ↔ t < s)
  fins : ∀ i t f, ls i = true → cmAt ks i = .fin t f → t < s
  box : ∀ i, i < n → cmAt ks i = .box → (ls i = true ↔ (b i).isSome = true)
  vals : ∀ i, ls i = true → vs i = (cmAt ks i).out r b i
  inv : I s r b w'
  le : s ≤ m
  closed : ∀ i j, ls j = true → waits l j i = true → ls i = true

theorem putM_all (L : Array Bool) (vs : Nat → Value) (r : Nat → Value) (b : Nat → Option Nat) : ∀ (l : List Oper) (k : Nat) (ks : List Cm) (a : Act), ks.length = l.length → (∀ i, i < l.length → L.getD (k + i) false = true) → (∀ i, i < l.length → vs (k + i) = (cmAt ks i).out r b (k + i)) → putL L vs k l a = putM r b k ks l a
  | [], _, [], _, _, _, _ => rfl
  | o :: l, k, d :: ks, a, hl, hL, hv => by
    simp only [putL, putM]
    rw [if_pos (by simpa using hL 0 (by simp)), show vs k = d.out r b k by simpa [cmAt] using hv 0 (by simp)]
    refine putM_all L vs r b l (k + 1) ks _ (by simpa using hl) (fun i hi => ?_) (fun i hi => ?_)
    · have := hL (i + 1) (by simpa using hi)
      rw [show k + (i + 1) = k + 1 + i by omega] at this; exact this
    · have := hv (i + 1) (by simpa using hi)
      rw [show k + (i + 1) = k + 1 + i by omega] at this
      simpa [cmAt] using this

theorem region_boxes {id : Nat} {a : Act} {w : World} {l : List Oper} (hm : P.follows .mixedOrders = true) (hB : regOk l = true) (ks : List Cm) (st : List Nat) (hK : boxesOk ks l st a.tmps.size = true)
    (I : Nat → (Nat → Value) → (Nat → Option Nat) → World → Prop) (h0 : I 0 (fun _ => undef) (fun _ => none) { w with drawn := w.drawn + 1 })
    (hstep : ∀ i o, l[i]? = some o → ∀ (a' : Act) (w' : World) (s : Nat) (r : Nat → Value) (b : Nat → Option Nat), I s r b w' → (∀ s, (l.all fun o => o.dst != some s) = true → a'.eval (.tmp s) = a.eval (.tmp s)) → (∀ j oj k, waits l i j = true → l[j]? = some oj → oj.dst = some k → a'.eval (.tmp k) = (cmAt ks j).out r b j) → (∀ j, waits l i j = true → cmAt ks j = .box → (b j).isSome = true) →
      match cmAt ks i with
      | .quiet v lim => s ≤ lim → (execOp a'.eval o).run P w' = .ok (.value v) w'
      | .step t => s = t → o.wp P a' w' (fun a'' w'' => ∃ v, a'' = a'.put o.dst v ∧ I (t + 1) (updR r t v) b w'') Q
      | .fin t f => t < s → (execOp a'.eval o).run P w' = .ok (.value (f (r t))) w'
      | .box => b i = none → ∃ ob, (execOp a'.eval o).run P w' = .ok (.value (.pointer (some ⟨w'.heap.size, 0, none⟩))) (w'.alloc ob) ∧ I s r (updO b i w'.heap.size) (w'.alloc ob))
    (hend : ∀ (r : Nat → Value) (b : Nat → Option Nat) (w' : World), I st.length r b w' → (∀ i, i < l.length → cmAt ks i = .box → ∃ g, b i = some g) → Q .normal (putM r b 0 ks l a) w') :
    (Code.region id l.toArray true).wp P Q a w := by
  simp only [boxesOk, Bool.and_eq_true, decide_eq_true_eq] at hK
  obtain ⟨⟨⟨hlen, hdst⟩, hst⟩, hall⟩ := hK
  have hap : dstsApart l = true := by simp only [regOk, Bool.and_eq_true] at hB; exact hB.1.1
  have hal : ∀ i, i < l.length → _ := fun i hi => List.all_eq_true.1 hall i (List.mem_range.2 hi)
  have hsl : ∀ s, s < st.length → _ := fun s hs => List.all_eq_true.1 hst s (List.mem_range.2 hs)
  have hstp : ∀ s, s < st.length → ∃ i, st[s]? = some i ∧ i < l.length ∧ cmAt ks i = .step s ∧ (0 < s → ∃ j, st[s - 1]? = some j ∧ waits l i j = true) := fun s hs => by
    have h := hsl s hs
    have e : st[s]? = some st[s] := List.getElem?_eq_getElem hs
    rw [e] at h
    simp only [Bool.and_eq_true, decide_eq_true_eq, Bool.or_eq_true, beq_iff_eq] at h
    refine ⟨st[s], e, h.1.1, ?_, fun h0 => ?_⟩
    · have h2 := h.1.2
      cases hk : cmAt ks st[s] with
      | quiet v lim => rw [hk] at h2; cases h2
      | fin t f => rw [hk] at h2; cases h2
      | box => rw [hk] at h2; cases h2
      | step t => rw [hk] at h2; simp at h2; rw [h2]
    · have h3 := h.2
      rcases h3 with h3 | h3
      · omega
      · have e2 : st[s - 1]? = some st[s - 1] := List.getElem?_eq_getElem (by omega)
        rw [e2] at h3
        exact ⟨_, e2, h3⟩
  have hst2 : ∀ i t, i < l.length → cmAt ks i = .step t → st[t]? = some i := fun i t hi hk => by
    have h := hal i hi
    rw [hk] at h
    simpa using h
  refine wp_region_inv hm hB (fun L vs w' => ∃ s r b, RBx ks l l.length st.length I (fun j => L.getD j false) vs s r b w') ?_ ?_ ?_
  · have hno : ∀ j, ¬ (Array.replicate l.length false).getD j false = true := fun j => by
      simp [Array.getD_eq_getD_getElem?, Array.getElem?_replicate]; split <;> simp
    exact ⟨0, fun _ => undef, fun _ => none, fun i h => absurd h (hno i), fun i t _ _ => ⟨fun h => absurd h (hno i), fun h => absurd h (Nat.not_lt_zero _)⟩, fun i _ _ h => absurd h (hno i), fun i _ _ => ⟨fun h => absurd h (hno i), fun h => by cases h⟩, fun i h => absurd h (hno i), h0, Nat.zero_le _, fun _ j h => absurd h (hno j)⟩
  · rintro L vs w' ⟨s, r, b, F⟩ i o ho hL hr
    have hi : i < l.length := (List.getElem?_eq_some_iff.1 ho).1
    have ni : L.getD i false = false := by simpa using listed_no hL
    have hset := setfun hL
    have hwt : ∀ j, waits l i j = true → L.getD j false = true := fun j hw => waits_spec hw ho hr
    have hfree : ∀ s, (l.all fun o => o.dst != some s) = true → (putL L vs 0 l a).eval (.tmp s) = a.eval (.tmp s) := fun s hs => putL_other l 0 a (fun p hp t ht e => by
      injection e with e
      subst e
      have := List.all_eq_true.1 hs p hp
      rw [ht] at this
      simp at this)
    have hvals : ∀ j oj k, waits l i j = true → l[j]? = some oj → oj.dst = some k → (putL L vs 0 l a).eval (.tmp k) = (cmAt ks j).out r b j := fun j oj k hw hoj hk => by
      have h1 := hwt j hw
      have hk2 := List.all_eq_true.1 hdst oj (List.mem_of_getElem? hoj)
      rw [hk] at hk2
      rw [putL_at h1 l 0 a oj hap (Nat.zero_le _) (by simpa using hoj) hk (by simpa using hk2)]
      exact F.vals j h1
    have hs := hstep i o ho (putL L vs 0 l a) w' s r b F.inv hfree hvals (fun j hw hj => (F.box j (F.lt j (hwt j hw)) hj).1 (hwt j hw))
    rw [hset]
    obtain ⟨ls, hls⟩ : ∃ ls : Nat → Bool, ls = fun j => L.getD j false := ⟨_, rfl⟩
    have hlsj : ∀ j, L.getD j false = ls j := fun j => by rw [hls]
    simp only [hlsj] at F ni hwt ⊢
    have hlt' : ∀ j, (decide (j = i) || ls j) = true → j < l.length := fun j hj => by
      simp only [Bool.or_eq_true, decide_eq_true_eq] at hj
      rcases hj with rfl | hj
      · exact hi
      · exact F.lt j hj
    have hcl : ∀ p j, (decide (j = i) || ls j) = true → waits l j p = true → (decide (p = i) || ls p) = true := fun p j hj hw => by
      simp only [Bool.or_eq_true, decide_eq_true_eq] at hj ⊢
      rcases hj with rfl | hj
      · exact .inr (hwt p hw)
      · exact .inr (F.closed p j hj hw)
    have hbxs : ∀ k, cmAt ks i = k → k.isBox = false → ∀ j, j < l.length → cmAt ks j = .box → ((decide (j = i) || ls j) = true ↔ (b j).isSome = true) := fun k h1 h2 j hj hjk => by
      have e : j ≠ i := fun e => by subst e; rw [h1] at hjk; subst hjk; cases h2
      simpa [e] using F.box j hj hjk
    have plain : ∀ (k : Cm) (v : Value), cmAt ks i = k → k.isBox = false → (∀ t, k ≠ .step t) → (∀ t f, k = .fin t f → t < s) → k.out r b i = v → ∃ s r b, RBx ks l l.length st.length I (fun j => decide (j = i) || ls j) (upd vs i v) s r b w' := fun k v hk h1 h2 h3 h4 => by
      refine ⟨s, r, b, hlt', ?_, ?_, hbxs k hk h1, ?_, F.inv, F.le, hcl⟩
      · intro j t hj hjk
        have e : j ≠ i := fun e => by subst e; rw [hk] at hjk; exact h2 t hjk
        simpa [e] using F.steps j t hj hjk
      · intro j t f hj hjk
        by_cases e : j = i
        · subst e; rw [hk] at hjk; exact h3 t f hjk
        · exact F.fins j t f (by simpa [e] using hj) hjk
      · intro j hj
        by_cases e : j = i
        · subst e; rw [upd_at, hk, h4]
        · rw [upd_ne e]; exact F.vals j (by simpa [e] using hj)
    cases hk : cmAt ks i with
    | fin t f =>
      rw [hk] at hs
      have hts : t < s := by
        have h := hal i hi
        rw [hk] at h
        obtain ⟨j, hjm, hj⟩ := List.any_eq_true.1 h
        simp only [Bool.and_eq_true] at hj
        have hjl := hwt j hj.1
        have h2 := hj.2
        cases hkj : cmAt ks j with
        | quiet v lim => rw [hkj] at h2; cases h2
        | box => rw [hkj] at h2; cases h2
        | step t' => rw [hkj] at h2; simp at h2; subst h2; exact (F.steps j t' (F.lt j hjl) hkj).1 hjl
        | fin t' f' => rw [hkj] at h2; simp at h2; subst h2; exact F.fins j t' f' hjl hkj
      exact oper_wp_ok (hs hts) ⟨_, rfl, plain (.fin t f) _ hk rfl (fun _ e => by cases e) (fun t' f' e => by injection e with e1; omega) rfl⟩
    | box =>
      rw [hk] at hs
      have hb0 : b i = none := by
        cases hbi : b i with
        | none => rfl
        | some g => have := (F.box i hi hk).2 (by rw [hbi]; rfl); rw [this] at ni; cases ni
      obtain ⟨ob, h1, h2⟩ := hs hb0
      refine oper_wp_ok h1 ⟨_, rfl, s, r, updO b i w'.heap.size, hlt', ?_, ?_, ?_, ?_, h2, F.le, hcl⟩
      · intro j t hj hjk
        have e : j ≠ i := fun e => by subst e; rw [hk] at hjk; cases hjk
        simpa [e] using F.steps j t hj hjk
      · intro j t f hj hjk
        have e : j ≠ i := fun e => by subst e; rw [hk] at hjk; cases hjk
        exact F.fins j t f (by simpa [e] using hj) hjk
      · intro j hj hjk
        by_cases e : j = i
        · subst e; simp [updO]
        · simpa [e, updO] using F.box j hj hjk
      · intro j hj
        by_cases e : j = i
        · subst e; rw [upd_at, hk]; simp [Cm.out, updO]
        · have hlj : ls j = true := by simpa [e] using hj
          rw [upd_ne e, F.vals j hlj]
          cases hkj : cmAt ks j with
          | quiet v' lim' => rfl
          | step t' => rfl
          | fin t' f' => rfl
          | box => simp [Cm.out, updO, e]
    | quiet v lim =>
      rw [hk] at hs
      have hle : s ≤ lim := by
        have h := hal i hi
        rw [hk] at h
        simp only [Bool.or_eq_true, decide_eq_true_eq] at h
        rcases h with h | h
        · exact Nat.le_trans F.le h
        · by_cases hlt : s ≤ lim
          · exact hlt
          · exfalso
            have hll : lim < st.length := by have := F.le; omega
            obtain ⟨j, e1, e2, e3, _⟩ := hstp lim hll
            rw [e1] at h
            have hlj := (F.steps j lim e2 e3).2 (by omega)
            rw [F.closed i j hlj h] at ni
            cases ni
      exact oper_wp_ok (hs hle) ⟨v, rfl, plain (.quiet v lim) v hk rfl (fun _ e => by cases e) (fun _ _ e => by cases e) rfl⟩
    | step t =>
      rw [hk] at hs
      have hti := hst2 i t hi hk
      have htl : t < st.length := (List.getElem?_eq_some_iff.1 hti).1
      have hst' : s = t := by
        have h1 : ¬ t < s := fun h => by rw [(F.steps i t hi hk).2 h] at ni; cases ni
        by_cases h0 : t = 0
        · omega
        · obtain ⟨i', e1, e2, e3, e4⟩ := hstp t htl
          rw [hti] at e1
          injection e1 with e1
          subst e1
          obtain ⟨j, q1, q2⟩ := e4 (by omega)
          obtain ⟨j', r1, r2, r3, _⟩ := hstp (t - 1) (by omega)
          rw [q1] at r1
          injection r1 with r1
          subst r1
          have := (F.steps j (t - 1) r2 r3).1 (hwt j q2)
          omega
      subst hst'
      refine Oper.wp_mono ?_ (hs rfl)
      rintro a'' w'' ⟨v, h1, h2⟩
      refine ⟨v, h1, s + 1, updR r s v, b, hlt', ?_, ?_, hbxs _ hk rfl, ?_, h2, htl, hcl⟩
      · intro j t' hj hjk
        by_cases e : j = i
        · subst e
          rw [hk] at hjk
          injection hjk with hjk
          subst hjk
          simp
        · have h3 := F.steps j t' hj hjk
          have hne : t' ≠ s := fun e' => by
            subst e'
            have := hst2 j t' hj hjk
            rw [hti] at this
            injection this with this
            exact e this.symm
          simp only [e, decide_false, Bool.false_or]
          rw [h3]; omega
      · intro j t' f hj hjk
        have e : j ≠ i := fun e => by subst e; rw [hk] at hjk; cases hjk
        have := F.fins j t' f (by simpa [e] using hj) hjk
        omega
      · intro j hj
        by_cases e : j = i
        · subst e; rw [upd_at, hk]; exact (updR_at r s v).symm
        · have hlj : ls j = true := by simpa [e] using hj
          rw [upd_ne e, F.vals j hlj]
          cases hkj : cmAt ks j with
          | quiet v' lim' => rfl
          | box => rfl
          | fin t' f' =>
            have := F.fins j t' f' hlj hkj
            exact congrArg f' (updR_ne (by omega)).symm
          | step t' =>
            have := (F.steps j t' (F.lt j hlj) hkj).1 hlj
            exact (updR_ne (by omega)).symm
  · rintro L vs w' ⟨s, r, b, F⟩ hlst
    have hs : s = st.length := by
      by_cases h : s < st.length
      · obtain ⟨i, e1, e2, e3, _⟩ := hstp s h
        have := (F.steps i s e2 e3).1 (hlst i e2)
        omega
      · have := F.le; omega
    subst hs
    rw [putM_all L vs r b l 0 ks a hlen (fun i hi => by rw [Nat.zero_add]; exact hlst i hi) (fun i hi => by rw [Nat.zero_add]; exact F.vals i (hlst i hi))]
    exact hend r b w' F.inv (fun i hi hk => Option.isSome_iff_exists.1 ((F.box i hi hk).1 (hlst i hi)))
end
end Go.Proofs.Ytnpaejknoipicae

namespace Go.Proofs.Ytnpaejknoipicae
open Go.RowKit

def NxV (m g f t : Int) (k ok turn : Bool) (s : Nat) (v : Value) (w : World) : Prop := match s with
  | 0 => ∃ gb ob, v = .agg #[.int .i64 3, .slice (some ⟨gb, 0, none⟩) 2 2, .slice (some ⟨ob, 0, none⟩) 1 1] ∧ GrsIn (fun _ => True) w (.slice (some ⟨gb, 0, none⟩) 2 2) shelfL ∧ FrsIn (fun _ => True) w (.slice (some ⟨ob, 0, none⟩) 1 1) shelfO
  | _ => ∃ pa pn pc, v = .tuple #[.agg #[.int .i64 m, .int .i64 g, .int .i64 f], .agg #[.int .i64 t, .bool k, .slice pa pn pc], .bool ok, .bool turn, .int .i64 0]

structure NxI (w1 : World) (m g f t : Int) (k ok turn : Bool) (s : Nat) (r : Nat → Value) (b : Nat → Option Nat) (w' : World) : Prop where
  bel : Below w1.heap.size w1 w'
  nine : ∀ p, b 9 = some p → w1.heap.size ≤ p ∧ b 10 ≠ some p ∧ (s ≤ 2 → Blk w' p #[.int .i64 0, .int .i64 0, .int .i64 0] 41) ∧ (3 ≤ s → Blk w' p #[.int .i64 m, .int .i64 g, .int .i64 f] 41)
  ten : ∀ p, b 10 = some p → w1.heap.size ≤ p ∧ (s ≤ 3 → Blk w' p #[.int .i64 0, .bool false, .slice none 0 0] 39) ∧ (4 ≤ s → ∃ pv, Blk w' p #[.int .i64 t, .bool k, pv] 39)
  has9 : 3 ≤ s → ¬ b 9 = none
  has10 : 4 ≤ s → ¬ b 10 = none
  one : s = 1 → NxV m g f t k ok turn 0 (r 0) w'
  two : 2 ≤ s → NxV m g f t k ok turn 1 (r 1) w'

theorem NxI.call {w1 : World} {m g f t : Int} {k ok turn : Bool} {s : Nat} {r : Nat → Value} {b : Nat → Option Nat} {w' w'' : World} (h : NxI w1 m g f t k ok turn s r b w') (hs : s ≤ 1) (hb : Below w'.heap.size w' w'') (v : Value) (hv : NxV m g f t k ok turn s v w'') : NxI w1 m g f t k ok turn (s + 1) (updR r s v) b w'' := by
  refine ⟨h.bel.trans (hb.mono h.bel.size), fun p hp => ?_, fun p hp => ?_, fun h => by omega, fun h => by omega, fun h0 => ?_, fun h0 => ?_⟩
  · obtain ⟨e1, e2, e3, e4⟩ := h.nine p hp
    have := e3 (by omega)
    exact ⟨e1, e2, fun _ => this.below hb this.lt, fun h => by omega⟩
  · obtain ⟨e1, e3, e4⟩ := h.ten p hp
    have := e3 (by omega)
    exact ⟨e1, fun _ => this.below hb this.lt, fun h => by omega⟩
  · have : s = 0 := by omega
    subst this
    rw [updR_at]; exact hv
  · have : s = 1 := by omega
    subst this
    rw [updR_at]; exact hv
theorem NxV.alloc {m g f t : Int} {k ok turn : Bool} {s : Nat} {v : Value} {w : World} (h : NxV m g f t k ok turn s v w) (o : Obj) : NxV m g f t k ok turn s v (w.alloc o) := by
  match s, h with
  | 0, ⟨gb, ob, e, q1, q2⟩ => exact ⟨gb, ob, e, q1.alloc _, q2.alloc _⟩
  | _ + 1, h => exact h
theorem NxI.box9 {w1 : World} {m g f t : Int} {k ok turn : Bool} {s : Nat} {r : Nat → Value} {b : Nat → Option Nat} {w' : World} (h : NxI w1 m g f t k ok turn s r b w') (hb : b 9 = none) : NxI w1 m g f t k ok turn s r (updO b 9 w'.heap.size) (w'.alloc (.cells #[.int .i64 0, .int .i64 0, .int .i64 0] 41)) := by
  have hs : s ≤ 2 := by
    by_cases h3 : 3 ≤ s
    · exact absurd hb (h.has9 h3)
    · omega
  refine ⟨h.bel.alloc h.bel.size _, fun p hp => ?_, fun p hp => ?_, fun h => by omega, fun h => by omega, fun h0 => (h.one h0).alloc _, fun h0 => (h.two h0).alloc _⟩
  · simp [updO] at hp
    subst hp
    refine ⟨h.bel.size, fun e => ?_, fun _ => Blk.new _ _ _, fun h => by omega⟩
    simp [updO] at e
    have := (h.ten _ e).2.1 (by omega)
    exact absurd this.lt (Nat.lt_irrefl _)
  · simp [updO] at hp
    obtain ⟨e1, e3, e4⟩ := h.ten p hp
    exact ⟨e1, fun h => (e3 h).alloc _, fun h => by omega⟩
theorem NxI.box10 {w1 : World} {m g f t : Int} {k ok turn : Bool} {s : Nat} {r : Nat → Value} {b : Nat → Option Nat} {w' : World} (h : NxI w1 m g f t k ok turn s r b w') (hb : b 10 = none) : NxI w1 m g f t k ok turn s r (updO b 10 w'.heap.size) (w'.alloc (.cells #[.int .i64 0, .bool false, .slice none 0 0] 39)) := by
  have hs : s ≤ 3 := by
    by_cases h3 : 4 ≤ s
    · exact absurd hb (h.has10 h3)
    · omega
  refine ⟨h.bel.alloc h.bel.size _, fun p hp => ?_, fun p hp => ?_, fun h0 => (by simpa [updO] using h.has9 h0), fun h => by omega, fun h0 => (h.one h0).alloc _, fun h0 => (h.two h0).alloc _⟩
  · simp [updO] at hp
    obtain ⟨e1, e2, e3, e4⟩ := h.nine p hp
    refine ⟨e1, fun e => ?_, fun h => (e3 h).alloc _, fun h => (e4 h).alloc _⟩
    simp [updO] at e
    subst e
    by_cases h : s ≤ 2
    · exact absurd (e3 h).lt (Nat.lt_irrefl _)
    · exact absurd (e4 (by omega)).lt (Nat.lt_irrefl _)
  · simp [updO] at hp
    subst hp
    exact ⟨h.bel.size, fun _ => Blk.new _ _ _, fun h => by omega⟩
theorem NxI.put9 {w1 : World} {m g f t : Int} {k ok turn : Bool} {r : Nat → Value} {b : Nat → Option Nat} {w' : World} (h : NxI w1 m g f t k ok turn 2 r b w') {p : Nat} (hp : b 9 = some p) (v : Value) : NxI w1 m g f t k ok turn 3 (updR r 2 v) b (((w'.setCell ⟨p, 0, none⟩ (.int .i64 m)).setCell ⟨p, 1, none⟩ (.int .i64 g)).setCell ⟨p, 2, none⟩ (.int .i64 f)) := by
  obtain ⟨e1, e2, e3, _⟩ := h.nine p hp
  have kg := e3 (Nat.le_refl _)
  refine ⟨((h.bel.setCell e1 _).setCell e1 _).setCell e1 _, fun q hq => ?_, fun q hq => ?_, fun _ => by rw [hp]; simp, fun h => by omega, fun h => by omega, fun _ => ?_⟩
  · rw [hp] at hq
    injection hq with hq
    subst hq
    exact ⟨e1, e2, fun h => by omega, fun _ => ((kg.set 0 (.int .i64 m)).set 1 (.int .i64 g)).set 2 (.int .i64 f)⟩
  · obtain ⟨q1, q2, _⟩ := h.ten q hq
    have hne : q ≠ p := fun e => e2 (by rw [← e]; exact hq)
    exact ⟨q1, fun _ => (((q2 (by omega)).other (a := ⟨p, 0, none⟩) hne _).other (a := ⟨p, 1, none⟩) hne _).other (a := ⟨p, 2, none⟩) hne _, fun h => by omega⟩
  · rw [updR_ne (by omega)]
    exact h.two (Nat.le_refl _)
theorem NxI.put10 {w1 : World} {m g f t : Int} {k ok turn : Bool} {r : Nat → Value} {b : Nat → Option Nat} {w' : World} (h : NxI w1 m g f t k ok turn 3 r b w') {p : Nat} (hp : b 10 = some p) (pv v : Value) : NxI w1 m g f t k ok turn 4 (updR r 3 v) b (((w'.setCell ⟨p, 0, none⟩ (.int .i64 t)).setCell ⟨p, 1, none⟩ (.bool k)).setCell ⟨p, 2, none⟩ pv) := by
  obtain ⟨e1, e3, _⟩ := h.ten p hp
  have kg := e3 (Nat.le_refl _)
  refine ⟨((h.bel.setCell e1 _).setCell e1 _).setCell e1 _, fun q hq => ?_, fun q hq => ?_, fun _ => h.has9 (by omega), fun _ => by rw [hp]; simp, fun h => by omega, fun _ => ?_⟩
  · obtain ⟨q1, q2, _, q4⟩ := h.nine q hq
    have hne : q ≠ p := fun e => q2 (by rw [e]; exact hp)
    exact ⟨q1, q2, fun h => by omega, fun _ => (((q4 (by omega)).other (a := ⟨p, 0, none⟩) hne _).other (a := ⟨p, 1, none⟩) hne _).other (a := ⟨p, 2, none⟩) hne _⟩
  · rw [hp] at hq
    injection hq with hq
    subst hq
    exact ⟨e1, fun h => by omega, fun _ => ⟨pv, ((kg.set 0 (.int .i64 t)).set 1 (.bool k)).set 2 pv⟩⟩
  · rw [updR_ne (by omega)]
    exact h.two (by omega)

theorem shelf_next1 : nxE 3 shelfL shelfO 3 3 0 100 = 0 ∧ nxM 3 shelfL shelfO 3 3 0 100 = 3 ∧ nxG 3 shelfL shelfO 3 3 0 100 = 3 ∧ nxF 3 shelfL shelfO 3 3 0 100 = 1 ∧ (nxX 3 shelfL shelfO 3 3 0 100).time = 10 ∧ (nxX 3 shelfL shelfO 3 3 0 100).key = true ∧ nxK 3 shelfL shelfO 3 3 0 100 = true ∧ nxT 3 shelfL shelfO 3 3 0 100 = false := by
  refine ⟨?_, ?_, ?_, ?_, ?_, ?_, ?_, ?_⟩ <;> kernel_rfl
theorem shelf_next2 : nxE 3 shelfL shelfO 2 3 1 100 = 0 ∧ nxM 3 shelfL shelfO 2 3 1 100 = 2 ∧ nxG 3 shelfL shelfO 2 3 1 100 = 3 ∧ nxF 3 shelfL shelfO 2 3 1 100 = 1 ∧ (nxX 3 shelfL shelfO 2 3 1 100).time = 0 ∧ (nxX 3 shelfL shelfO 2 3 1 100).key = false ∧ nxK 3 shelfL shelfO 2 3 1 100 = false ∧ nxT 3 shelfL shelfO 2 3 1 100 = false := by
  refine ⟨?_, ?_, ?_, ?_, ?_, ?_, ?_, ?_⟩ <;> kernel_rfl
theorem shelf_seek1 : seekE 3 shelfL shelfO 12 = 0 ∧ seekN 3 shelfL shelfO 12 = 3 ∧ begM 3 shelfL shelfO 3 12 = 3 := by
  refine ⟨?_, ?_, ?_⟩ <;> kernel_rfl
theorem shelf_live : seekE 3 shelfL shelfO 1000000 = 0 ∧ seekN 3 shelfL shelfO 1000000 = 5 ∧ begM 3 shelfL shelfO 1 1000000 = 1 := by
  refine ⟨?_, ?_, ?_⟩ <;> kernel_rfl

end Go.Proofs.Ytnpaejknoipicae

namespace Go.Proofs.Ytnpaejknoipicae
open Go.RowKit

set_option maxHeartbeats 8000000 in
set_option maxRecDepth 100000 in
theorem cursorBegun_any (w : World) :
    Calls Try.prog 14 #[] w fun e w' => e = .returned (.bool true) ∧ Below w.heap.size w w' := by
  have HN1 : Hid (∀ (U : World) (gb ob : Nat), GrsIn (fun _ => True) U (.slice (some ⟨gb, 0, none⟩) 2 2) shelfL → FrsIn (fun _ => True) U (.slice (some ⟨ob, 0, none⟩) 1 1) shelfO → Calls Try.prog 17 #[.agg #[.int .i64 3, .slice (some ⟨gb, 0, none⟩) 2 2, .slice (some ⟨ob, 0, none⟩) 1 1], .agg #[.int .i64 3, .int .i64 3, .int .i64 0], .int .i64 100] U fun e w' => ∃ pa pn pc, e = .returned (.tuple #[.agg #[.int .i64 3, .int .i64 3, .int .i64 1], .agg #[.int .i64 10, .bool true, .slice pa pn pc], .bool true, .bool false, .int .i64 0]) ∧ Below U.heap.size U w') := fun U gb ob h1 h2 => by
    refine (next_any 3 _ _ shelfL shelfO 3 3 0 100 U h1 h2).mono ?_
    obtain ⟨a1, a2, a3, a4, a5, a6, a7, a8⟩ := shelf_next1
    rw [a1, a2, a3, a4, a5, a6, a7, a8]
    rintro e w' ⟨pv, rfl, hp, hb⟩
    obtain ⟨pa, pc, ep⟩ := hp.1.len
    rw [ep]
    exact ⟨_, _, _, rfl, hb⟩
  have HN2 : Hid (∀ (U : World) (gb ob : Nat), GrsIn (fun _ => True) U (.slice (some ⟨gb, 0, none⟩) 2 2) shelfL → FrsIn (fun _ => True) U (.slice (some ⟨ob, 0, none⟩) 1 1) shelfO → Calls Try.prog 17 #[.agg #[.int .i64 3, .slice (some ⟨gb, 0, none⟩) 2 2, .slice (some ⟨ob, 0, none⟩) 1 1], .agg #[.int .i64 2, .int .i64 3, .int .i64 1], .int .i64 100] U fun e w' => ∃ pa pn pc, e = .returned (.tuple #[.agg #[.int .i64 2, .int .i64 3, .int .i64 1], .agg #[.int .i64 0, .bool false, .slice pa pn pc], .bool false, .bool false, .int .i64 0]) ∧ Below U.heap.size U w') := fun U gb ob h1 h2 => by
    refine (next_any 3 _ _ shelfL shelfO 2 3 1 100 U h1 h2).mono ?_
    obtain ⟨a1, a2, a3, a4, a5, a6, a7, a8⟩ := shelf_next2
    rw [a1, a2, a3, a4, a5, a6, a7, a8]
    rintro e w' ⟨pv, rfl, hp, hb⟩
    obtain ⟨pa, pc, ep⟩ := hp.1.len
    rw [ep]
    exact ⟨_, _, _, rfl, hb⟩
  have HSK : Hid (∀ (U : World) (gb ob : Nat), GrsIn (fun _ => True) U (.slice (some ⟨gb, 0, none⟩) 2 2) shelfL → FrsIn (fun _ => True) U (.slice (some ⟨ob, 0, none⟩) 1 1) shelfO → Calls Try.prog 20 #[.agg #[.int .i64 3, .slice (some ⟨gb, 0, none⟩) 2 2, .slice (some ⟨ob, 0, none⟩) 1 1], .int .i64 12] U fun e w' => e = .returned (.tuple #[.agg #[.int .i64 3, .int .i64 3, .int .i64 0], .int .i64 0]) ∧ Below U.heap.size U w') := fun U gb ob h1 h2 => by
    have := curSeek_any 3 _ _ shelfL shelfO 12 U h1 h2
    obtain ⟨a1, a2, a3⟩ := shelf_seek1
    rw [a1, a2, a3] at this
    exact this
  have HLV : Hid (∀ (U : World) (gb ob : Nat), GrsIn (fun _ => True) U (.slice (some ⟨gb, 0, none⟩) 2 2) shelfL → FrsIn (fun _ => True) U (.slice (some ⟨ob, 0, none⟩) 1 1) shelfO → Calls Try.prog 13 #[.agg #[.int .i64 3, .slice (some ⟨gb, 0, none⟩) 2 2, .slice (some ⟨ob, 0, none⟩) 1 1]] U fun e w' => e = .returned (.tuple #[.agg #[.int .i64 1, .int .i64 5, .int .i64 0], .int .i64 0]) ∧ Below U.heap.size U w') := fun U gb ob h1 h2 => by
    have := live_any 3 _ _ shelfL shelfO U h1 h2
    obtain ⟨a1, a2, a3⟩ := shelf_live
    rw [a1, a2, a3] at this
    exact this
  have HPA : Hid (∀ U : World, Calls Try.prog 21 #[.agg #[.int .i64 3, .int .i64 3, .int .i64 1]] U fun e w' => e = .returned (.tuple #[.agg #[.int .i64 2, .int .i64 3, .int .i64 1], .int .i64 0]) ∧ Below U.heap.size U w') := fun U => by
    have := pause_any 3 3 1 U
    rw [show curE 3 3 1 = 0 by kernel_rfl, show pauN 3 3 1 2 = 2 by kernel_rfl, show pauN 3 3 1 3 = 3 by kernel_rfl, show pauN 3 3 1 1 = 1 by kernel_rfl] at this
    exact this
  have HCC : Hid (∀ U : World, Calls Try.prog 26 #[.agg #[.int .i64 3, .int .i64 3, .int .i64 0]] U fun e w' => e = .returned (.int .i64 0) ∧ Below U.heap.size U w') := fun U => by
    have := curCheck_any 3 3 0 U
    rw [show curE 3 3 0 = 0 by kernel_rfl] at this
    exact this
  go_enter Try.func14, Try.ntmps14
  go_wp2_with fail
  refine (shelf_any _).mono ?_
  rintro e w1 ⟨gb, ob, rfl, G1, O1, b1⟩
  go_wp2_with fail
  refine (HSK.out _ _ _ G1 O1).mono ?_
  rintro e w2 ⟨rfl, b2⟩
  obtain ⟨W1, hW1⟩ : ∃ W1, W1 = w2.alloc (.cells #[.int .i64 3, .int .i64 3, .int .i64 0] 41) := ⟨_, rfl⟩
  obtain ⟨CB, hCB⟩ : ∃ n, n = w2.heap.size := ⟨_, rfl⟩
  have KC : Hid (Blk W1 CB #[.int .i64 3, .int .i64 3, .int .i64 0] 41) := by rw [hCB]; exact Blk.newE hW1
  have B1 : Hid (Below w.heap.size w W1) := by
    have h2 : Below w.heap.size w w2 := b1.trans (b2.mono b1.size)
    rw [hW1]; exact h2.alloc h2.size _
  clear b1 b2 G1 O1
  go_wp2_with fail
  rw [← hW1, ← hCB]
  clear hW1 hCB
  refine region_boxes (by kernel_rfl) (by kernel_rfl) [.step 0, .quiet (.agg #[.int .i64 3, .int .i64 3, .int .i64 0]) 4, .step 1, .fin 1 (fun r => r), .fin 1 (exT 0), .fin 1 (exT 1), .fin 1 (exT 2), .fin 1 (exT 3), .fin 1 (exT 4), .box, .box, .step 2, .step 3, .fin 1 (exT 2), .fin 1 (exT 3), .fin 1 (exT 4)] [0, 2, 11, 12] (by kernel_rfl)
    (NxI W1 3 3 1 10 true true false) ?i0 ?step ?fin
  case i0 => exact ⟨⟨rfl, rfl, rfl, Nat.le_refl _, fun _ _ => rfl⟩, fun _ hp => (by cases hp), fun _ hp => (by cases hp), fun h => (by omega), fun h => (by omega), fun h => (by omega), fun h => (by omega)⟩
  case step =>
    intro i o ho a' w' s r b hI hfree hvals hbx
    have f1 : a'.eval (.tmp 1) = .pointer (some ⟨CB, 0, none⟩) := (hfree 1 (by kernel_rfl)).trans rfl
    obtain ⟨y0, y1, y2⟩ := (KC.out.below hI.bel KC.out.lt).three
    have hR : 1 < s → ∃ pa pn pc, r 1 = .tuple #[.agg #[.int .i64 3, .int .i64 3, .int .i64 1], .agg #[.int .i64 10, .bool true, .slice pa pn pc], .bool true, .bool false, .int .i64 0] := fun hs => hI.two hs
    match i, ho with
    | 0, ho =>
      simp at ho; subst ho
      show s = 0 → _
      intro hs
      subst hs
      have ef : a'.eval (.func 37) = .func (.func 37) #[] #[] := rfl
      refine oper_wp_call (f := 37) (args := #[]) ?_ ((shelf_any w').mono ?_)
      · generalize a'.eval = ρ at *
        simp [execOp, go_sem, ef]
      · rintro e w'' ⟨gb, ob, rfl, q1, q2, b1⟩
        exact ⟨_, rfl, _, rfl, NxI.call hI (Nat.zero_le _) b1 _ ⟨gb, ob, rfl, q1, q2⟩⟩
    | 1, ho =>
      simp at ho; subst ho
      show s ≤ 4 → (execOp a'.eval _).run _ w' = .ok (.value _) w'
      intro _
      generalize a'.eval = ρ at *
      simp [execOp, go_sem, f1, y0, y1, y2]
    | 2, ho =>
      simp at ho; subst ho
      show s = 1 → _
      intro hs
      subst hs
      obtain ⟨gb, ob, er, q1, q2⟩ := hI.one rfl
      have e1 : a'.eval (.tmp 23) = .agg #[.int .i64 3, .slice (some ⟨gb, 0, none⟩) 2 2, .slice (some ⟨ob, 0, none⟩) 1 1] := (hvals 0 _ _ (by kernel_rfl) rfl rfl).trans er
      have e2 : a'.eval (.tmp 24) = .agg #[.int .i64 3, .int .i64 3, .int .i64 0] := hvals 1 _ _ (by kernel_rfl) rfl rfl
      have ef : a'.eval (.func 17) = .func (.func 17) #[] #[] := rfl
      have ec : ∀ v, a'.eval (.const v) = v := fun _ => rfl
      refine oper_wp_call (f := 17) (args := #[.agg #[.int .i64 3, .slice (some ⟨gb, 0, none⟩) 2 2, .slice (some ⟨ob, 0, none⟩) 1 1], .agg #[.int .i64 3, .int .i64 3, .int .i64 0], .int .i64 100]) ?_ ((HN1.out w' gb ob q1 q2).mono ?_)
      · generalize a'.eval = ρ at *
        simp [execOp, go_sem, e1, e2, ef, ec]
      · rintro e w'' ⟨pa, pn, pc, rfl, b1⟩
        exact ⟨_, rfl, _, rfl, NxI.call hI (Nat.le_refl _) b1 _ ⟨pa, pn, pc, rfl⟩⟩
    | 3, ho =>
      simp at ho; subst ho
      have e1 : a'.eval (.tmp 25) = r 1 := hvals 2 _ _ (by kernel_rfl) rfl rfl
      show 1 < s → (execOp a'.eval _).run _ w' = .ok (.value _) w'
      intro hs
      obtain ⟨pa, pn, pc, er⟩ := hR hs
      rw [er] at e1 ⊢
      generalize a'.eval = ρ at *
      simp [execOp, go_sem, e1]
    | 4, ho =>
      simp at ho; subst ho
      have e1 : a'.eval (.tmp 22) = r 1 := hvals 3 _ _ (by kernel_rfl) rfl rfl
      show 1 < s → (execOp a'.eval _).run _ w' = .ok (.value _) w'
      intro hs
      obtain ⟨pa, pn, pc, er⟩ := hR hs
      rw [er] at e1 ⊢
      simp only [exT] at e1 ⊢
      generalize a'.eval = ρ at *
      simp [execOp, go_sem, e1]
    | 5, ho =>
      simp at ho; subst ho
      have e1 : a'.eval (.tmp 22) = r 1 := hvals 3 _ _ (by kernel_rfl) rfl rfl
      show 1 < s → (execOp a'.eval _).run _ w' = .ok (.value _) w'
      intro hs
      obtain ⟨pa, pn, pc, er⟩ := hR hs
      rw [er] at e1 ⊢
      simp only [exT] at e1 ⊢
      generalize a'.eval = ρ at *
      simp [execOp, go_sem, e1]
    | 6, ho =>
      simp at ho; subst ho
      have e1 : a'.eval (.tmp 22) = r 1 := hvals 3 _ _ (by kernel_rfl) rfl rfl
      show 1 < s → (execOp a'.eval _).run _ w' = .ok (.value _) w'
      intro hs
      obtain ⟨pa, pn, pc, er⟩ := hR hs
      rw [er] at e1 ⊢
      simp only [exT] at e1 ⊢
      generalize a'.eval = ρ at *
      simp [execOp, go_sem, e1]
    | 7, ho =>
      simp at ho; subst ho
      have e1 : a'.eval (.tmp 22) = r 1 := hvals 3 _ _ (by kernel_rfl) rfl rfl
      show 1 < s → (execOp a'.eval _).run _ w' = .ok (.value _) w'
      intro hs
      obtain ⟨pa, pn, pc, er⟩ := hR hs
      rw [er] at e1 ⊢
      simp only [exT] at e1 ⊢
      generalize a'.eval = ρ at *
      simp [execOp, go_sem, e1]
    | 8, ho =>
      simp at ho; subst ho
      have e1 : a'.eval (.tmp 22) = r 1 := hvals 3 _ _ (by kernel_rfl) rfl rfl
      show 1 < s → (execOp a'.eval _).run _ w' = .ok (.value _) w'
      intro hs
      obtain ⟨pa, pn, pc, er⟩ := hR hs
      rw [er] at e1 ⊢
      simp only [exT] at e1 ⊢
      generalize a'.eval = ρ at *
      simp [execOp, go_sem, e1]
    | 9, ho =>
      simp at ho; subst ho
      show b 9 = none → _
      intro hb
      refine ⟨.cells #[.int .i64 0, .int .i64 0, .int .i64 0] 41, ?_, hI.box9 hb⟩
      generalize a'.eval = ρ at *
      simp [execOp, go_sem]
    | 10, ho =>
      simp at ho; subst ho
      show b 10 = none → _
      intro hb
      refine ⟨.cells #[.int .i64 0, .bool false, .slice none 0 0] 39, ?_, hI.box10 hb⟩
      generalize a'.eval = ρ at *
      simp [execOp, go_sem]
    | 11, ho =>
      simp at ho; subst ho
      show s = 2 → _
      intro hs
      subst hs
      obtain ⟨pa, pn, pc, er⟩ := hR (by omega)
      obtain ⟨p, hp⟩ := Option.isSome_iff_exists.1 (hbx 9 (by kernel_rfl) rfl)
      obtain ⟨g1, g2, g3, _⟩ := hI.nine p hp
      have kg := g3 (Nat.le_refl _)
      have e1 : a'.eval (.tmp 3) = .pointer (some ⟨p, 0, none⟩) := (hvals 9 _ _ (by kernel_rfl) rfl rfl).trans (by show Cm.out r b 9 .box = _; simp [Cm.out, hp])
      have e2 : a'.eval (.tmp 26) = .agg #[.int .i64 3, .int .i64 3, .int .i64 1] := (hvals 4 _ _ (by kernel_rfl) rfl rfl).trans (by show exT 0 (r 1) = _; rw [er]; rfl)
      obtain ⟨t0, t1, t2⟩ := kg.three
      have fr := kg.free
      refine oper_wp_skip (w' := ((w'.setCell ⟨p, 0, none⟩ (.int .i64 3)).setCell ⟨p, 1, none⟩ (.int .i64 3)).setCell ⟨p, 2, none⟩ (.int .i64 1)) ?_ ⟨_, rfl, ?_⟩
      · generalize a'.eval = ρ at *
        simp [execOp, go_sem, e1, e2, t0, t1, t2, fr]
      · exact NxI.put9 hI hp _
    | 12, ho =>
      simp at ho; subst ho
      show s = 3 → _
      intro hs
      subst hs
      obtain ⟨pa, pn, pc, er⟩ := hR (by omega)
      obtain ⟨p, hp⟩ := Option.isSome_iff_exists.1 (hbx 10 (by kernel_rfl) rfl)
      obtain ⟨g1, g3, _⟩ := hI.ten p hp
      have kg := g3 (Nat.le_refl _)
      have e1 : a'.eval (.tmp 4) = .pointer (some ⟨p, 0, none⟩) := (hvals 10 _ _ (by kernel_rfl) rfl rfl).trans (by show Cm.out r b 10 .box = _; simp [Cm.out, hp])
      have e2 : a'.eval (.tmp 27) = .agg #[.int .i64 10, .bool true, .slice pa pn pc] := (hvals 5 _ _ (by kernel_rfl) rfl rfl).trans (by show exT 1 (r 1) = _; rw [er]; rfl)
      obtain ⟨t0, t1, t2⟩ := kg.three
      have fr := kg.free
      refine oper_wp_skip (w' := ((w'.setCell ⟨p, 0, none⟩ (.int .i64 10)).setCell ⟨p, 1, none⟩ (.bool true)).setCell ⟨p, 2, none⟩ (.slice pa pn pc)) ?_ ⟨_, rfl, ?_⟩
      · generalize a'.eval = ρ at *
        simp [execOp, go_sem, e1, e2, t0, t1, t2, fr]
      · exact NxI.put10 hI hp _ _
    | 13, ho =>
      simp at ho; subst ho
      have e1 : a'.eval (.tmp 28) = exT 2 (r 1) := hvals 6 _ _ (by kernel_rfl) rfl rfl
      show 1 < s → (execOp a'.eval _).run _ w' = .ok (.value _) w'
      intro hs
      obtain ⟨pa, pn, pc, er⟩ := hR hs
      rw [er] at e1 ⊢
      simp only [exT] at e1 ⊢
      generalize a'.eval = ρ at *
      simp [execOp, go_sem, e1]
    | 14, ho =>
      simp at ho; subst ho
      have e1 : a'.eval (.tmp 29) = exT 3 (r 1) := hvals 7 _ _ (by kernel_rfl) rfl rfl
      show 1 < s → (execOp a'.eval _).run _ w' = .ok (.value _) w'
      intro hs
      obtain ⟨pa, pn, pc, er⟩ := hR hs
      rw [er] at e1 ⊢
      simp only [exT] at e1 ⊢
      generalize a'.eval = ρ at *
      simp [execOp, go_sem, e1]
    | 15, ho =>
      simp at ho; subst ho
      have e1 : a'.eval (.tmp 30) = exT 4 (r 1) := hvals 8 _ _ (by kernel_rfl) rfl rfl
      show 1 < s → (execOp a'.eval _).run _ w' = .ok (.value _) w'
      intro hs
      obtain ⟨pa, pn, pc, er⟩ := hR hs
      rw [er] at e1 ⊢
      simp only [exT] at e1 ⊢
      generalize a'.eval = ρ at *
      simp [execOp, go_sem, e1]
    | i + 16, ho => simp at ho
  case fin =>
    rintro r b W hI hbxs
    obtain ⟨p, hp⟩ := hbxs 9 (by decide) rfl
    obtain ⟨q, hq⟩ := hbxs 10 (by decide) rfl
    obtain ⟨pa, pn, pc, er⟩ := hI.two (by decide)
    obtain ⟨n1, n2, _, n4⟩ := hI.nine p hp
    obtain ⟨m1, _, m3⟩ := hI.ten q hq
    have KD : Hid (Blk W p #[.int .i64 3, .int .i64 3, .int .i64 1] 41) := n4 (by decide)
    obtain ⟨pv, hpv⟩ := m3 (by decide)
    have KF : Hid (Blk W q #[.int .i64 10, .bool true, pv] 39) := hpv
    have HBW : Hid (Below W1.heap.size W1 W) := hI.bel
    simp only [putM, Cm.out, er, hp, hq, exT, Act.put, List.setIfInBounds_toArray, List.set_cons_succ, List.set_cons_zero, List.getElem?_toArray, List.getElem?_cons_zero, List.getElem?_cons_succ, Option.getD_some]
    clear hI hbxs hp hq er n1 n2 n4 m1 m3 hpv
    have KC2 : Hid (Blk W CB #[.int .i64 3, .int .i64 3, .int .i64 0] 41) := KC.out.below HBW.out KC.out.lt
    have HS := (((KC2.out.stay).and ((KD.out.stay).and KF.out.stay)).and (below_stay (B1.out.trans (HBW.out.mono B1.out.size)) (by have := B1.out.size; have := HBW.out.size; omega))).hid
    clear KC KC2 KD KF HBW B1 HN1 HSK
    go_wp2_with fail
    refine (shelf_any _).mono ?_
    rintro e w3 ⟨gb, ob, rfl, G1, O1, b1⟩
    have HS1 := Stay.go HS b1
    go_wp2_with fail
    refine (HLV.out _ _ _ G1 O1).mono ?_
    rintro e w4 ⟨rfl, b2⟩
    obtain ⟨W4, hW4⟩ : ∃ W4, W4 = w4.alloc (.cells #[.int .i64 1, .int .i64 5, .int .i64 0] 41) := ⟨_, rfl⟩
    obtain ⟨LB, hLB⟩ : ∃ n, n = w4.heap.size := ⟨_, rfl⟩
    have HS2 := (HS1.out.step b2).allocE hW4
    have HL2 : Hid (Stay W4 (fun U => Blk U LB #[.int .i64 1, .int .i64 5, .int .i64 0] 41)) := by rw [hLB]; exact (Blk.newE hW4).stay
    obtain ⟨k0, k1, k2⟩ := HS2.out.now.1.2.1.three
    clear b1 b2 G1 O1 HS HS1 HLV
    subst hW4
    go_wp2_with fail
    rw [← hLB]
    refine (HPA.out _).mono ?_
    rintro e w5 ⟨rfl, b5⟩
    obtain ⟨W5, hW5⟩ : ∃ W5, W5 = w5.alloc (.cells #[.int .i64 2, .int .i64 3, .int .i64 1] 41) := ⟨_, rfl⟩
    obtain ⟨PB, hPB⟩ : ∃ n, n = w5.heap.size := ⟨_, rfl⟩
    have HS3 := (HS2.out.step b5).allocE hW5
    have HL3 := (HL2.out.step b5).allocE hW5
    have KPB : Hid (Blk W5 PB #[.int .i64 2, .int .i64 3, .int .i64 1] 41) := by rw [hPB]; exact Blk.newE hW5
    clear b5 HS2 HL2 k0 k1 k2 HPA hLB
    go_wp2_with fail
    rw [← hW5, ← hPB]
    clear hW5 hPB
    refine region_boxes (by kernel_rfl) (by kernel_rfl) [.step 0, .quiet (.agg #[.int .i64 2, .int .i64 3, .int .i64 1]) 4, .step 1, .fin 1 (fun r => r), .fin 1 (exT 0), .fin 1 (exT 1), .fin 1 (exT 2), .fin 1 (exT 3), .fin 1 (exT 4), .box, .box, .step 2, .step 3, .fin 1 (exT 2), .fin 1 (exT 3), .fin 1 (exT 4)] [0, 2, 11, 12] (by kernel_rfl)
      (NxI W5 2 3 1 0 false false false) ?i0 ?step ?fin
    case i0 => exact ⟨⟨rfl, rfl, rfl, Nat.le_refl _, fun _ _ => rfl⟩, fun _ hp => (by cases hp), fun _ hp => (by cases hp), fun h => (by omega), fun h => (by omega), fun h => (by omega), fun h => (by omega)⟩
    case step =>
      intro i o ho a' w' s r b hI hfree hvals hbx
      have f1 : a'.eval (.tmp 10) = .pointer (some ⟨PB, 0, none⟩) := (hfree 10 (by kernel_rfl)).trans rfl
      obtain ⟨y0, y1, y2⟩ := (KPB.out.below hI.bel KPB.out.lt).three
      have hR : 1 < s → ∃ pa pn pc, r 1 = .tuple #[.agg #[.int .i64 2, .int .i64 3, .int .i64 1], .agg #[.int .i64 0, .bool false, .slice pa pn pc], .bool false, .bool false, .int .i64 0] := fun hs => hI.two hs
      match i, ho with
      | 0, ho =>
        simp at ho; subst ho
        show s = 0 → _
        intro hs
        subst hs
        have ef : a'.eval (.func 37) = .func (.func 37) #[] #[] := rfl
        refine oper_wp_call (f := 37) (args := #[]) ?_ ((shelf_any w').mono ?_)
        · generalize a'.eval = ρ at *
          simp [execOp, go_sem, ef]
        · rintro e w'' ⟨gb, ob, rfl, q1, q2, b1⟩
          exact ⟨_, rfl, _, rfl, NxI.call hI (Nat.zero_le _) b1 _ ⟨gb, ob, rfl, q1, q2⟩⟩
      | 1, ho =>
        simp at ho; subst ho
        show s ≤ 4 → (execOp a'.eval _).run _ w' = .ok (.value _) w'
        intro _
        generalize a'.eval = ρ at *
        simp [execOp, go_sem, f1, y0, y1, y2]
      | 2, ho =>
        simp at ho; subst ho
        show s = 1 → _
        intro hs
        subst hs
        obtain ⟨gb, ob, er, q1, q2⟩ := hI.one rfl
        have e1 : a'.eval (.tmp 42) = .agg #[.int .i64 3, .slice (some ⟨gb, 0, none⟩) 2 2, .slice (some ⟨ob, 0, none⟩) 1 1] := (hvals 0 _ _ (by kernel_rfl) rfl rfl).trans er
        have e2 : a'.eval (.tmp 43) = .agg #[.int .i64 2, .int .i64 3, .int .i64 1] := hvals 1 _ _ (by kernel_rfl) rfl rfl
        have ef : a'.eval (.func 17) = .func (.func 17) #[] #[] := rfl
        have ec : ∀ v, a'.eval (.const v) = v := fun _ => rfl
        refine oper_wp_call (f := 17) (args := #[.agg #[.int .i64 3, .slice (some ⟨gb, 0, none⟩) 2 2, .slice (some ⟨ob, 0, none⟩) 1 1], .agg #[.int .i64 2, .int .i64 3, .int .i64 1], .int .i64 100]) ?_ ((HN2.out w' gb ob q1 q2).mono ?_)
        · generalize a'.eval = ρ at *
          simp [execOp, go_sem, e1, e2, ef, ec]
        · rintro e w'' ⟨pa, pn, pc, rfl, b1⟩
          exact ⟨_, rfl, _, rfl, NxI.call hI (Nat.le_refl _) b1 _ ⟨pa, pn, pc, rfl⟩⟩
      | 3, ho =>
        simp at ho; subst ho
        have e1 : a'.eval (.tmp 44) = r 1 := hvals 2 _ _ (by kernel_rfl) rfl rfl
        show 1 < s → (execOp a'.eval _).run _ w' = .ok (.value _) w'
        intro hs
        obtain ⟨pa, pn, pc, er⟩ := hR hs
        rw [er] at e1 ⊢
        generalize a'.eval = ρ at *
        simp [execOp, go_sem, e1]
      | 4, ho =>
        simp at ho; subst ho
        have e1 : a'.eval (.tmp 41) = r 1 := hvals 3 _ _ (by kernel_rfl) rfl rfl
        show 1 < s → (execOp a'.eval _).run _ w' = .ok (.value _) w'
        intro hs
        obtain ⟨pa, pn, pc, er⟩ := hR hs
        rw [er] at e1 ⊢
        simp only [exT] at e1 ⊢
        generalize a'.eval = ρ at *
        simp [execOp, go_sem, e1]
      | 5, ho =>
        simp at ho; subst ho
        have e1 : a'.eval (.tmp 41) = r 1 := hvals 3 _ _ (by kernel_rfl) rfl rfl
        show 1 < s → (execOp a'.eval _).run _ w' = .ok (.value _) w'
        intro hs
        obtain ⟨pa, pn, pc, er⟩ := hR hs
        rw [er] at e1 ⊢
        simp only [exT] at e1 ⊢
        generalize a'.eval = ρ at *
        simp [execOp, go_sem, e1]
      | 6, ho =>
        simp at ho; subst ho
        have e1 : a'.eval (.tmp 41) = r 1 := hvals 3 _ _ (by kernel_rfl) rfl rfl
        show 1 < s → (execOp a'.eval _).run _ w' = .ok (.value _) w'
        intro hs
        obtain ⟨pa, pn, pc, er⟩ := hR hs
        rw [er] at e1 ⊢
        simp only [exT] at e1 ⊢
        generalize a'.eval = ρ at *
        simp [execOp, go_sem, e1]
      | 7, ho =>
        simp at ho; subst ho
        have e1 : a'.eval (.tmp 41) = r 1 := hvals 3 _ _ (by kernel_rfl) rfl rfl
        show 1 < s → (execOp a'.eval _).run _ w' = .ok (.value _) w'
        intro hs
        obtain ⟨pa, pn, pc, er⟩ := hR hs
        rw [er] at e1 ⊢
        simp only [exT] at e1 ⊢
        generalize a'.eval = ρ at *
        simp [execOp, go_sem, e1]
      | 8, ho =>
        simp at ho; subst ho
        have e1 : a'.eval (.tmp 41) = r 1 := hvals 3 _ _ (by kernel_rfl) rfl rfl
        show 1 < s → (execOp a'.eval _).run _ w' = .ok (.value _) w'
        intro hs
        obtain ⟨pa, pn, pc, er⟩ := hR hs
        rw [er] at e1 ⊢
        simp only [exT] at e1 ⊢
        generalize a'.eval = ρ at *
        simp [execOp, go_sem, e1]
      | 9, ho =>
        simp at ho; subst ho
        show b 9 = none → _
        intro hb
        refine ⟨.cells #[.int .i64 0, .int .i64 0, .int .i64 0] 41, ?_, hI.box9 hb⟩
        generalize a'.eval = ρ at *
        simp [execOp, go_sem]
      | 10, ho =>
        simp at ho; subst ho
        show b 10 = none → _
        intro hb
        refine ⟨.cells #[.int .i64 0, .bool false, .slice none 0 0] 39, ?_, hI.box10 hb⟩
        generalize a'.eval = ρ at *
        simp [execOp, go_sem]
      | 11, ho =>
        simp at ho; subst ho
        show s = 2 → _
        intro hs
        subst hs
        obtain ⟨pa, pn, pc, er⟩ := hR (by omega)
        obtain ⟨p, hp⟩ := Option.isSome_iff_exists.1 (hbx 9 (by kernel_rfl) rfl)
        obtain ⟨g1, g2, g3, _⟩ := hI.nine p hp
        have kg := g3 (Nat.le_refl _)
        have e1 : a'.eval (.tmp 12) = .pointer (some ⟨p, 0, none⟩) := (hvals 9 _ _ (by kernel_rfl) rfl rfl).trans (by show Cm.out r b 9 .box = _; simp [Cm.out, hp])
        have e2 : a'.eval (.tmp 45) = .agg #[.int .i64 2, .int .i64 3, .int .i64 1] := (hvals 4 _ _ (by kernel_rfl) rfl rfl).trans (by show exT 0 (r 1) = _; rw [er]; rfl)
        obtain ⟨t0, t1, t2⟩ := kg.three
        have fr := kg.free
        refine oper_wp_skip (w' := ((w'.setCell ⟨p, 0, none⟩ (.int .i64 2)).setCell ⟨p, 1, none⟩ (.int .i64 3)).setCell ⟨p, 2, none⟩ (.int .i64 1)) ?_ ⟨_, rfl, ?_⟩
        · generalize a'.eval = ρ at *
          simp [execOp, go_sem, e1, e2, t0, t1, t2, fr]
        · exact NxI.put9 hI hp _
      | 12, ho =>
        simp at ho; subst ho
        show s = 3 → _
        intro hs
        subst hs
        obtain ⟨pa, pn, pc, er⟩ := hR (by omega)
        obtain ⟨p, hp⟩ := Option.isSome_iff_exists.1 (hbx 10 (by kernel_rfl) rfl)
        obtain ⟨g1, g3, _⟩ := hI.ten p hp
        have kg := g3 (Nat.le_refl _)
        have e1 : a'.eval (.tmp 13) = .pointer (some ⟨p, 0, none⟩) := (hvals 10 _ _ (by kernel_rfl) rfl rfl).trans (by show Cm.out r b 10 .box = _; simp [Cm.out, hp])
        have e2 : a'.eval (.tmp 46) = .agg #[.int .i64 0, .bool false, .slice pa pn pc] := (hvals 5 _ _ (by kernel_rfl) rfl rfl).trans (by show exT 1 (r 1) = _; rw [er]; rfl)
        obtain ⟨t0, t1, t2⟩ := kg.three
        have fr := kg.free
        refine oper_wp_skip (w' := ((w'.setCell ⟨p, 0, none⟩ (.int .i64 0)).setCell ⟨p, 1, none⟩ (.bool false)).setCell ⟨p, 2, none⟩ (.slice pa pn pc)) ?_ ⟨_, rfl, ?_⟩
        · generalize a'.eval = ρ at *
          simp [execOp, go_sem, e1, e2, t0, t1, t2, fr]
        · exact NxI.put10 hI hp _ _
      | 13, ho =>
        simp at ho; subst ho
        have e1 : a'.eval (.tmp 47) = exT 2 (r 1) := hvals 6 _ _ (by kernel_rfl) rfl rfl
        show 1 < s → (execOp a'.eval _).run _ w' = .ok (.value _) w'
        intro hs
        obtain ⟨pa, pn, pc, er⟩ := hR hs
        rw [er] at e1 ⊢
        simp only [exT] at e1 ⊢
        generalize a'.eval = ρ at *
        simp [execOp, go_sem, e1]
      | 14, ho =>
        simp at ho; subst ho
        have e1 : a'.eval (.tmp 48) = exT 3 (r 1) := hvals 7 _ _ (by kernel_rfl) rfl rfl
        show 1 < s → (execOp a'.eval _).run _ w' = .ok (.value _) w'
        intro hs
        obtain ⟨pa, pn, pc, er⟩ := hR hs
        rw [er] at e1 ⊢
        simp only [exT] at e1 ⊢
        generalize a'.eval = ρ at *
        simp [execOp, go_sem, e1]
      | 15, ho =>
        simp at ho; subst ho
        have e1 : a'.eval (.tmp 49) = exT 4 (r 1) := hvals 8 _ _ (by kernel_rfl) rfl rfl
        show 1 < s → (execOp a'.eval _).run _ w' = .ok (.value _) w'
        intro hs
        obtain ⟨pa, pn, pc, er⟩ := hR hs
        rw [er] at e1 ⊢
        simp only [exT] at e1 ⊢
        generalize a'.eval = ρ at *
        simp [execOp, go_sem, e1]
      | i + 16, ho => simp at ho
    case fin =>
      rintro r b Y hI hbxs
      obtain ⟨p, hp⟩ := hbxs 9 (by decide) rfl
      obtain ⟨q, hq⟩ := hbxs 10 (by decide) rfl
      obtain ⟨pa, pn, pc, er⟩ := hI.two (by decide)
      obtain ⟨n1, n2, _, n4⟩ := hI.nine p hp
      obtain ⟨m1, _, m3⟩ := hI.ten q hq
      have KD5 : Hid (Blk Y p #[.int .i64 2, .int .i64 3, .int .i64 1] 41) := n4 (by decide)
      obtain ⟨pv, hpv⟩ := m3 (by decide)
      have KF5 : Hid (Blk Y q #[.int .i64 0, .bool false, pv] 39) := hpv
      have HBY : Hid (Below W5.heap.size W5 Y) := hI.bel
      simp only [putM, Cm.out, er, hp, hq, exT, Act.put, List.setIfInBounds_toArray, List.set_cons_succ, List.set_cons_zero, List.getElem?_toArray, List.getElem?_cons_zero, List.getElem?_cons_succ, Option.getD_some]
      clear hI hbxs hp hq er n1 n2 n4 m1 m3 hpv
      have HS4 := Stay.go HS3 HBY.out
      have HL4 := Stay.go HL3 HBY.out
      have HP4 : Hid (Stay Y (fun U => Blk U PB #[.int .i64 2, .int .i64 3, .int .i64 1] 41)) := (KPB.out.below HBY.out KPB.out.lt).stay
      clear HS3 HL3 KPB KD5 KF5 HBY HN2
      obtain ⟨k0, k1, k2⟩ := HS4.out.now.1.1.three
      go_wp2_with fail
      refine (HCC.out _).mono ?_
      rintro e w8 ⟨rfl, b8⟩
      have HS5 := Stay.go HS4 b8
      obtain ⟨k0, k1, k2⟩ := HS5.out.now.1.1.three
      obtain ⟨d0, d1, d2⟩ := HS5.out.now.1.2.1.three
      obtain ⟨g0, g1, g2⟩ := HS5.out.now.1.2.2.three
      obtain ⟨l0, l1, l2⟩ := (HL4.out.step b8).now.three
      obtain ⟨p0, p1, p2⟩ := (HP4.out.step b8).now.three
      clear b8 HS4 HL4 HP4
      go_wp2
      go_ret
      exact ⟨rfl, HS5.out.now.2⟩

end Go.Proofs.Ytnpaejknoipicae

namespace Go.Proofs.Ytnpaejknoipicae
open Go.RowKit

theorem StrsIn.off {S : Nat → Prop} {w : World} {v : Value} {l : List ByteArray} {b : Nat} {C : Array Value} {t : TypeId} (h : StrsIn S w v l) (hb : Blk w b C t) (hC : ∀ (j : Nat) (s : ByteArray), ¬ C[j]? = some (.string s)) : StrsIn (fun g => S g ∧ g ≠ b) w v l := by
  obtain ⟨h1, h2, h3⟩ := h
  refine ⟨h1, h2, fun g hg h0 => ⟨⟨(h3 g hg h0).1, fun e => ?_⟩, (h3 g hg h0).2⟩⟩
  subst e
  obtain ⟨hl, h4 | ⟨b', off, c, rfl, _, hc⟩⟩ := h1
  · omega
  · have e1 : b' = g := by simpa [Value.ownBlock] using hg
    subst e1
    have hx : (l.map Value.string)[0]? = some (.string l[0]) := by rw [List.getElem?_map, List.getElem?_eq_getElem h0]; rfl
    have := hc 0 _ hx
    have hb' : w.heap[b']? = some (.cells C t (0, 0)) := hb
    simp [World.cell?, hb'] at this
    exact hC _ _ this

end Go.Proofs.Ytnpaejknoipicae
