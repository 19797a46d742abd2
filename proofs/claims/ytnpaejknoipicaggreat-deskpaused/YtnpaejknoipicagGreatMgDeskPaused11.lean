/-
 A region that draws its order: steps that come in one order only, what is made of a step's answer, reads, and boxes, each of which may be made at any time.
-/
import Derived.Test.YtnpaejknoipicagGreatMgDeskPaused8
import Derived.Test.YtnpaejknoipicagGreatMgDeskPaused9
import Derived.Test.YtnpaejknoipicagGreatMgDeskPaused10
import Derived.Test.YtnpaejknoipicagGreatMgDeskPaused7
import Derived.Test.YtnpaejknoipicagGreatMgDeskPaused5
import Derived.Test.YtnpaejknoipicagGreatMgDeskPaused1
import Derived.Test.YtnpaejknoipicagGreatMgDeskPaused4
import Derived.Deep.Cut
import Derived.Deep.DeepCutAuto
namespace Go.Proofs.YtnpaejknoipicagGreat
structure Vw where
 m : Int
 g : Int
 f : Int
 l : Int
 t : Int
 s : Int
def Vw.zero : Vw := ⟨0, 0, 0, 0, 0, 0⟩
def Vw.fresh (v : Vw) : Bool := v.m == 0 && (v.g == 0 && v.f == 0)
def Vw.chk (v : Vw) : Int := if v.fresh = true ∨ curE v.m v.g v.f = 0 then outE v.l v.t v.s else curE v.m v.g v.f
def Vw.cur (v : Vw) (m g f : Int) : Vw := ⟨m, g, f, v.l, v.t, v.s⟩
def Vw.sent (v : Vw) (g f : Int) (o : Int × Int × Int) : Vw := ⟨v.m, g, f, o.1, o.2.1, o.2.2⟩
theorem Vw.chk_zero {v : Vw} : v.chk = 0 ↔ (v.fresh = true ∨ curE v.m v.g v.f = 0) ∧ outE v.l v.t v.s = 0 := by
 unfold Vw.chk
 by_cases h : v.fresh = true ∨ curE v.m v.g v.f = 0
 ·rw [if_pos h]; exact ⟨fun e => ⟨h, e⟩, fun e => e.2⟩
 ·rw [if_neg h]; exact ⟨fun e => absurd (.inr e) h, fun e => absurd e.1 h⟩
theorem fresh_iff {v : Vw} : v.fresh = true ↔ v.m = 0 ∧ v.g = 0 ∧ v.f = 0 := by simp [Vw.fresh]
abbrev Tr.A (T : Tr) : List (List Fr) := allG T.L T.O
def sendF (T : Tr) (n : Int) : Nat → Vw → List Pk → Vw × List Pk × Int
 | 0, v, a => (v, a, 0)
 | k + 1, v, a => match nxt v.m T.A (v.g - T.first) v.f n with
  | none => (v, a, 0)
  | some p => if sdE v.l v.t v.s (frAt (grAt T.A p.1) p.2.1) (p.2.2 || v.f == 0) = 0 then
    sendF T n k (v.sent (T.first + p.1) (p.2.1 + 1) (sdO v.l v.t v.s (frAt (grAt T.A p.1) p.2.1) (p.2.2 || v.f == 0))) (a ++ sdP v.l v.t v.s (frAt (grAt T.A p.1) p.2.1) (p.2.2 || v.f == 0))
   else (Vw.zero, [], sdE v.l v.t v.s (frAt (grAt T.A p.1) p.2.1) (p.2.2 || v.f == 0))
def Fuel (A : List (List Fr)) (d f : Int) (i : Nat) : Prop := 40 ≤ i ∨ ∃ k j : Nat, d = k ∧ f = j ∧ k < A.length ∧ j ≤ (grAt A k).length ∧ (restF A k j).length < i
theorem fuel_step {T : Tr} {v : Vw} {n : Int} {i : Nat} {p : Nat × Nat × Bool} (hs : stchk T.first T.L T.O = 0) (hF : Fuel T.A (v.g - T.first) v.f i) (hn : nxt v.m T.A (v.g - T.first) v.f n = some p) :
  ∃ i', i = i' + 1 ∧ Fuel T.A (T.first + p.1 - T.first) ((p.2.1 : Int) + 1) i' ∧ p.1 < T.A.length ∧ p.2.1 < (grAt T.A p.1).length ∧ (v.f = 0 → p.2.1 = 0) := by
 obtain ⟨s1, s2, s3, s4, _, s6⟩ := stchk_zero.1 hs
 have hA6 : T.A.length ≤ 6 := allG_len T.L T.O s3
 have hAR : ∀ k, k < T.A.length → 0 < (grAt T.A k).length ∧ (grAt T.A k).length ≤ 6 := fun k hk => by
  have := gchk_first (allG_right hs _ (grAt_mem hk) : gchk (grAt T.A k) = 0)
  exact ⟨this.1, this.2.1⟩
 obtain ⟨k, j, t⟩ := p
 simp only
 have hrest : ∀ a b, a < T.A.length → b < (grAt T.A a).length → (restF T.A a (b + 1)).length ≤ 35 := fun a b ha hb => by
  have h1 := flatten_len (A := T.A.drop (a + 1)) (fun g hg => by
   obtain ⟨q, hq, e⟩ := List.mem_iff_getElem.1 (List.mem_of_mem_drop hg)
   have := (hAR q hq).2
   rw [show grAt T.A q = g by simp [grAt, List.getElem?_eq_getElem hq, e]] at this
   exact this)
  have h2 := hAR a ha
  unfold restF
  rw [List.length_append, List.length_drop]
  rw [List.length_drop] at h1
  omega
 have hd : T.first + (k : Int) - T.first = k := by omega
 rw [hd]
 have fin : ∀ i, 0 < i → k < T.A.length → j < (grAt T.A k).length → (40 ≤ i ∨ (restF T.A k (j + 1)).length + 1 < i) → ∃ i', i = i' + 1 ∧ Fuel T.A k ((j : Int) + 1) i' := fun i h0 hk hj h => by
  obtain ⟨i', rfl⟩ : ∃ i', i = i' + 1 := ⟨i - 1, by omega⟩
  refine ⟨i', rfl, .inr ⟨k, j + 1, rfl, by simp, hk, by omega, ?_⟩⟩
  have := hrest k j hk hj
  omega
 unfold nxt at hn
 have tr : ∀ a b c, tryAt v.m n T.A a b c = some (k, j, t) → a = k ∧ b = j := fun a b c h => by
  unfold tryAt at h
  split at h
  ·cases h
  ·injection h with h
   injection h with h1 h2
   injection h2 with h2 h3
   exact ⟨h1, h2⟩
 by_cases h1 : v.m = 2 ∨ T.A.length = 0
 ·rw [if_pos h1] at hn; cases hn
 rw [if_neg h1] at hn
 have hq0 : 0 < T.A.length := by omega
 by_cases h2 : v.g - T.first < 0 ∨ (T.A.length : Int) ≤ v.g - T.first ∨ ((grAt T.A (v.g - T.first).toNat).length : Int) < v.f
 ·rw [if_pos h2] at hn
  obtain ⟨e1, e2⟩ := tr _ _ _ hn
  have hk : k < T.A.length := by
   rw [← e1]; split <;> omega
  subst e2
  have hj := (hAR k hk).1
  have h40 : 40 ≤ i := by
   rcases hF with h | ⟨a, b, ea, eb, ha, hb, _⟩
   ·exact h
   ·exfalso
    have : (v.g - T.first).toNat = a := by omega
    rw [this] at h2
    omega
  obtain ⟨i', a1, a2⟩ := fin i (by omega) hk hj (.inl h40)
  exact ⟨i', a1, a2, hk, hj, fun _ => rfl⟩
 ·rw [if_neg h2] at hn
  obtain ⟨a, ha⟩ : ∃ a : Nat, v.g - T.first = a := ⟨(v.g - T.first).toNat, by omega⟩
  have hat : (v.g - T.first).toNat = a := by omega
  rw [hat] at hn h2
  have hal : a < T.A.length := by omega
  by_cases h3 : v.f = (grAt T.A a).length
  ·rw [if_pos h3] at hn
   by_cases h4 : a + 1 = T.A.length
   ·rw [if_pos h4] at hn; cases hn
   ·rw [if_neg h4] at hn
    obtain ⟨e1, e2⟩ := tr _ _ _ hn
    subst e1 e2
    have hj := (hAR (a + 1) (by omega)).1
    have hl : 40 ≤ i ∨ (restF T.A (a + 1) (0 + 1)).length + 1 < i := by
     rcases hF with h | ⟨a', b, ea, eb, ha', hb, hr⟩
     ·exact .inl h
     ·right
      have : a' = a := by omega
      subst this
      have hbl : b = (grAt T.A a').length := by omega
      rw [hbl, restF_behind (by omega) hj, List.length_cons] at hr
      exact hr
    obtain ⟨i', a1, a2⟩ := fin i (by omega) (by omega) hj hl
    exact ⟨i', a1, a2, by omega, hj, fun _ => rfl⟩
  ·rw [if_neg h3] at hn
   obtain ⟨e1, e2⟩ := tr _ _ _ hn
   subst e1
   by_cases hneg : v.f < 0
   ·have hz : v.f.toNat = 0 := by omega
    rw [hz] at e2
    subst e2
    have hj := (hAR a hal).1
    have h40 : 40 ≤ i := by
     rcases hF with h | ⟨a', b, ea, eb, _⟩
     ·exact h
     ·omega
    obtain ⟨i', a1, a2⟩ := fin i (by omega) hal hj (.inl h40)
    exact ⟨i', a1, a2, hal, hj, fun _ => rfl⟩
   ·have hfj : v.f = j := by omega
    have hj : j < (grAt T.A a).length := by omega
    have hl : 40 ≤ i ∨ (restF T.A a (j + 1)).length + 1 < i := by
     rcases hF with h | ⟨a', b, ea, eb, ha', hb, hr⟩
     ·exact .inl h
     ·right
      have e1 : a' = a := by omega
      have e2 : b = j := by omega
      subst e1 e2
      rw [restF_in hj, List.length_cons] at hr
      exact hr
    obtain ⟨i', a1, a2⟩ := fin i (by omega) hal hj hl
    exact ⟨i', a1, a2, hal, hj, fun h => by omega⟩
def actE (kind n : Int) (x : ByteArray) : Int := if kind < 1 ∨ 5 < kind then 6 else if (¬ kind = 1 ∧ ¬ x = ByteArray.empty) ∨ (kind < 4 ∧ ¬ n = 0) then 1 else 0
def badDo (e : Int) : Tr × Vw × List Pk × Int := (Tr.zero, Vw.zero, [], e)
def doR (T : Tr) (v : Vw) (kind n : Int) (x : ByteArray) : Tr × Vw × List Pk × Int :=
 if actE kind n x = 0 then
  if kind = 1 then (if (feedR T x.data.toList).2.2 = 0 then ((feedR T x.data.toList).1, v, [], 0) else badDo (feedR T x.data.toList).2.2)
  else if kind = 2 then (if T.A.length = 0 then badDo 5 else (T, v.cur 1 (T.first + (T.A.length - 1 : Nat)) 0, [], 0))
  else if kind = 3 then (if v.fresh = true then badDo 4 else (T, v.cur 2 v.g v.f, [], 0))
  else if kind = 4 then (if n < 0 ∨ 1000000 < n then badDo 3 else if T.A.length = 0 then badDo 5 else (T, v.cur 3 (seekN T.first T.L T.O n) 0, [], 0))
  else if v.fresh = true then badDo 4 else if n < 0 ∨ 1000000 < n then badDo 3
  else if (sendF T n 40 v []).2.2 = 0 then (T, (sendF T n 40 v []).1, (sendF T n 40 v []).2.1, 0) else badDo (sendF T n 40 v []).2.2
 else badDo (actE kind n x)
def doA (T : Tr) (v : Vw) (kind n : Int) (x : ByteArray) : Tr × Vw × List Pk × Int := if T.chk = 0 then (if v.chk = 0 then doR T v kind n x else badDo v.chk) else badDo T.chk
def openAt (l : List Pk) (i : Nat) : Bool := decide (0 < i) && !(l[i - 1]?.getD Pk.zero).e
def pkOk (l : List Pk) (i : Nat) : Prop := (l[i]?.getD Pk.zero).seq = ((i : Int) + 1) % 65536 ∧ (0 < i → (l[i - 1]?.getD Pk.zero).time ≤ (l[i]?.getD Pk.zero).time) ∧ (l[i]?.getD Pk.zero).f = !openAt l i ∧ (openAt l i = true → (l[i]?.getD Pk.zero).time = (l[i - 1]?.getD Pk.zero).time)
def Strm (l : List Pk) (t : Int) : Prop := (∀ i, i < l.length → pkOk l i ∧ (l[i]?.getD Pk.zero).time ≤ t) ∧ openAt l l.length = false ∧ (0 < l.length → (l[0]?.getD Pk.zero).k = true)
theorem openAt_left {l m : List Pk} {i : Nat} (h : i ≤ l.length) : openAt (l ++ m) i = openAt l i := by
 unfold openAt
 by_cases h0 : 0 < i
 ·rw [List.getElem?_append_left (by omega)]
 ·have : i = 0 := by omega
  subst this; rfl
theorem Strm.more {l : List Pk} {t T last : Int} {key : Bool} {ps : List ByteArray} (h : Strm l t) (hl : last = l.length) (ht : t ≤ T) (h0 : 0 < ps.length) (hk : l.length = 0 → key = true) : Strm (l ++ pksOf last T key ps) T := by
 obtain ⟨h1, h2, h3⟩ := h
 have hpl : (pksOf last T key ps).length = ps.length := by unfold pksOf; rw [pksK_len]
 have at1 : ∀ i, i < l.length → (l ++ pksOf last T key ps)[i]?.getD Pk.zero = l[i]?.getD Pk.zero := fun i hi => by rw [List.getElem?_append_left hi]
 have at2 : ∀ i, i < ps.length → (l ++ pksOf last T key ps)[l.length + i]?.getD Pk.zero = pkAt last T key ps i := fun i hi => by
  rw [List.getElem?_append_right (by omega), Nat.add_sub_cancel_left]; exact pksOf_at hi
 refine ⟨fun i hi => ?_, ?_, fun _ => ?_⟩
 ·rw [List.length_append, hpl] at hi
  by_cases hlt : i < l.length
  ·obtain ⟨⟨a1, a2, a3, a4⟩, a5⟩ := h1 i hlt
   unfold pkOk
   rw [at1 i hlt, openAt_left (by omega)]
   refine ⟨⟨a1, fun h0 => ?_, a3, fun ho => ?_⟩, by omega⟩
   ·rw [at1 (i - 1) (by omega)]; exact a2 h0
   ·rw [at1 (i - 1) (by omega)]; exact a4 ho
  ·obtain ⟨j, rfl⟩ : ∃ j, i = l.length + j := ⟨i - l.length, by omega⟩
   unfold pkOk
   rw [at2 j (by omega)]
   by_cases hj0 : j = 0
   ·subst hj0
    rw [Nat.add_zero, openAt_left (Nat.le_refl _), h2]
    refine ⟨⟨?_, fun hp => ?_, rfl, fun ho => (by cases ho)⟩, Int.le_refl _⟩
    ·show (last + 1 + ((0 : Nat) : Int)) % 65536 = _
     rw [hl]; simp
    ·rw [at1 _ (by omega)]
     have := (h1 (l.length - 1) (by omega)).2
     show _ ≤ T
     omega
   ·have e1 : (l ++ pksOf last T key ps)[l.length + j - 1]?.getD Pk.zero = pkAt last T key ps (j - 1) := by
     rw [show l.length + j - 1 = l.length + (j - 1) by omega]; exact at2 (j - 1) (by omega)
    have ho : openAt (l ++ pksOf last T key ps) (l.length + j) = true := by
     unfold openAt
     rw [e1]
     have : (pkAt last T key ps (j - 1)).e = false := by simp [pkAt]; omega
     rw [this]; simp; omega
    rw [e1, ho]
    refine ⟨⟨?_, fun _ => Int.le_refl _, ?_, fun _ => rfl⟩, Int.le_refl _⟩
    ·show (last + 1 + (j : Int)) % 65536 = _
     rw [hl]; congr 1; simp; omega
    ·show (j == 0) = !true
     simp [hj0]
 ·rw [List.length_append, hpl]
  unfold openAt
  rw [show l.length + ps.length - 1 = l.length + (ps.length - 1) by omega, at2 _ (by omega)]
  simp [pkAt]
 ·by_cases hz : l.length = 0
  ·have := at2 0 h0
   rw [hz, Nat.zero_add] at this
   rw [this]
   simp [pkAt, hk hz]
  ·rw [at1 0 (by omega)]; exact h3 (by omega)
def Seen (v : Vw) (l : List Pk) : Prop := v.l = l.length ∧ Strm l v.t ∧ (l.length = 0 → v.f = 0)
theorem curE_step {T : Tr} {v : Vw} {k j : Nat} (hs : stchk T.first T.L T.O = 0) (hc : curE v.m v.g v.f = 0) (hk : k < T.A.length) (hj : j < (grAt T.A k).length) : curE v.m (T.first + k) ((j : Int) + 1) = 0 := by
 obtain ⟨s1, s2, s3, _⟩ := stchk_zero.1 hs
 have hA6 : T.A.length ≤ 6 := allG_len T.L T.O s3
 have := (gchk_first (allG_right hs _ (grAt_mem hk) : gchk (grAt T.A k) = 0)).2.1
 obtain ⟨c1, c2, _⟩ := curE_zero.1 hc
 exact curE_zero.2 ⟨c1, c2, by omega, by omega, by omega, by omega⟩
theorem sdO_right {l t s : Int} {f : Fr} {turn : Bool} (h : sdE l t s f turn = 0) : outE (sdO l t s f turn).1 (sdO l t s f turn).2.1 (sdO l t s f turn).2.2 = 0 ∧ t ≤ (sdO l t s f turn).2.1 ∧ (sdO l t s f turn).1 = l + f.parts.length ∧ sdP l t s f turn = pksOf l (sdO l t s f turn).2.1 f.key f.parts ∧ 0 < f.parts.length := by
 obtain ⟨e1, e2, a1, a2, a3, a4, a5, a6, a7, a8, a9, _⟩ := sd_zero h
 obtain ⟨h1, _, _⟩ := sdE_zero.1 h
 obtain ⟨b1, b2, b3, b4, b5, b6⟩ := outE_zero.1 h1
 rw [e1]
 obtain ⟨S, hS⟩ : ∃ x, x = sdS l t s f.time turn := ⟨_, rfl⟩
 rw [← hS] at a3 a4 e2 ⊢
 have hSS : S = t + 10 - f.time ∨ S = s := by
  rw [hS]; unfold sdS; split
  ·exact .inl rfl
  ·exact .inr rfl
 refine ⟨outE_zero.2 ⟨?_, ?_, ?_, ?_, ?_, ?_⟩, a3, rfl, e2, a6⟩
 ·show 0 ≤ l + (f.parts.length : Int); omega
 ·exact a5
 ·show 0 ≤ f.time + S; omega
 ·exact a4
 ·show -1000000 ≤ S; omega
 ·show S ≤ 1000000; omega
theorem send_right {T : Tr} (n : Int) (hs : stchk T.first T.L T.O = 0) : ∀ (i : Nat) (v : Vw) (a : List Pk), curE v.m v.g v.f = 0 → outE v.l v.t v.s = 0 → (sendF T n i v a).2.2 = 0 → Fuel T.A (v.g - T.first) v.f i →
  curE (sendF T n i v a).1.m (sendF T n i v a).1.g (sendF T n i v a).1.f = 0 ∧ outE (sendF T n i v a).1.l (sendF T n i v a).1.t (sendF T n i v a).1.s = 0 ∧ ∃ r, (sendF T n i v a).2.1 = a ++ r ∧ (∀ l, Seen v l → Seen (sendF T n i v a).1 (l ++ r)) := by
 intro i
 induction i with
 | zero =>
  intro v a hc ho _ _
  exact ⟨hc, ho, [], by simp [sendF], fun l hl => by simpa [sendF] using hl⟩
 | succ i ih =>
  intro v a hc ho hE hF
  simp only [sendF] at hE ⊢
  cases hn : nxt v.m T.A (v.g - T.first) v.f n with
  | none => exact ⟨hc, ho, [], by simp, fun l hl => by simpa using hl⟩
  | some p =>
   rw [hn] at hE
   simp only at hE ⊢
   obtain ⟨i', e, hF', hk, hj, hj0⟩ := fuel_step hs hF hn
   have e' : i' = i := by omega
   subst e'
   obtain ⟨x, hx⟩ : ∃ x, x = frAt (grAt T.A p.1) p.2.1 := ⟨_, rfl⟩
   obtain ⟨tn, htn⟩ : ∃ x, x = (p.2.2 || v.f == 0) := ⟨_, rfl⟩
   rw [← hx, ← htn] at hE ⊢
   by_cases h1 : sdE v.l v.t v.s x tn = 0
   ·rw [if_pos h1] at hE ⊢
    obtain ⟨o1, o2, o3, o4, o5⟩ := sdO_right h1
    obtain ⟨w, hw⟩ : ∃ w, w = v.sent (T.first + p.1) (p.2.1 + 1) (sdO v.l v.t v.s x tn) := ⟨_, rfl⟩
    rw [← hw] at hE ⊢
    have wc : curE w.m w.g w.f = 0 := by
     have := curE_step (v := v) hs hc hk hj
     rw [hw]; exact this
    have wo : outE w.l w.t w.s = 0 := by rw [hw]; exact o1
    have wF : Fuel T.A (w.g - T.first) w.f i' := by rw [hw]; exact hF'
    obtain ⟨q1, q2, r, q3, q4⟩ := ih w (a ++ sdP v.l v.t v.s x tn) wc wo hE wF
    refine ⟨q1, q2, sdP v.l v.t v.s x tn ++ r, by rw [q3, List.append_assoc], fun l hl => ?_⟩
    rw [← List.append_assoc]
    refine q4 _ ?_
    obtain ⟨l1, l2, l3⟩ := hl
    have hkey : l.length = 0 → x.key = true := fun h0 => by
     have := hj0 (l3 h0)
     rw [hx, this]
     exact (gchk_first (allG_right hs _ (grAt_mem hk) : gchk (grAt T.A p.1) = 0)).2.2
    have hst := l2.more (last := v.l) (T := (sdO v.l v.t v.s x tn).2.1) (key := x.key) (ps := x.parts) l1 o2 o5 hkey
    rw [← o4] at hst
    have hlen : (sdP v.l v.t v.s x tn).length = x.parts.length := by rw [o4]; unfold pksOf; rw [pksK_len]
    refine ⟨?_, ?_, fun h0 => ?_⟩
    ·rw [hw]
     show (sdO v.l v.t v.s x tn).1 = _
     rw [o3, List.length_append, hlen, l1]; simp
    ·rw [hw]; exact hst
    ·rw [List.length_append, hlen] at h0; omega
   ·rw [if_neg h1] at hE
    exact absurd hE h1
theorem do_right {T : Tr} {v : Vw} {kind n : Int} {x : ByteArray} (h : (doA T v kind n x).2.2.2 = 0) :
  T.chk = 0 ∧ v.chk = 0 ∧ actE kind n x = 0 ∧ (doA T v kind n x).1.chk = 0 ∧ (doA T v kind n x).2.1.chk = 0 ∧ ∀ l, Seen v l → Seen (doA T v kind n x).2.1 (l ++ (doA T v kind n x).2.2.1) := by
 have hT : T.chk = 0 := by
  by_cases h1 : T.chk = 0
  ·exact h1
  ·unfold doA at h; rw [if_neg h1] at h; exact h
 have hv : v.chk = 0 := by
  by_cases h1 : v.chk = 0
  ·exact h1
  ·unfold doA at h; rw [if_pos hT, if_neg h1] at h; exact h
 have e0 : doA T v kind n x = doR T v kind n x := by unfold doA; rw [if_pos hT, if_pos hv]
 rw [e0] at h ⊢
 have ha : actE kind n x = 0 := by
  by_cases h1 : actE kind n x = 0
  ·exact h1
  ·unfold doR at h; rw [if_neg h1] at h; exact h
 refine ⟨hT, hv, ha, ?_⟩
 obtain ⟨v1, v2⟩ := Vw.chk_zero.1 hv
 obtain ⟨_, _, _, hs, _⟩ := Tr.chk_zero.1 hT
 unfold doR at h ⊢
 rw [if_pos ha] at h ⊢
 have same : ∀ l, Seen v l → Seen v (l ++ []) := fun l hl => by rw [List.append_nil]; exact hl
 obtain ⟨s1, s2, s3, _⟩ := stchk_zero.1 hs
 have hA6 : T.A.length ≤ 6 := allG_len T.L T.O s3
 by_cases k1 : kind = 1
 ·rw [if_pos k1] at h ⊢
  by_cases f0 : (feedR T x.data.toList).2.2 = 0
  ·rw [if_pos f0]
   have e1 : feedA T x.data.toList = feedR T x.data.toList := by unfold feedA; rw [if_pos hT]
   have := (feed_right (t := T) (s := x.data.toList) (by rw [e1]; exact f0)).1
   rw [e1] at this
   exact ⟨this, hv, same⟩
  ·rw [if_neg f0] at h; exact absurd h f0
 rw [if_neg k1] at h ⊢
 by_cases k2 : kind = 2
 ·rw [if_pos k2] at h ⊢
  by_cases hz : T.A.length = 0
  ·rw [if_pos hz] at h; cases h
  ·rw [if_neg hz]
   refine ⟨hT, Vw.chk_zero.2 ⟨.inr (curE_zero.2 ⟨?_, ?_, ?_, ?_, ?_, ?_⟩), v2⟩, fun l hl => ?_⟩
   all_goals try (show (_ : Int) ≤ _; simp only [Vw.cur]; omega)
   exact ⟨by rw [List.append_nil]; exact hl.1, by rw [List.append_nil]; exact hl.2.1, fun _ => rfl⟩
 rw [if_neg k2] at h ⊢
 by_cases k3 : kind = 3
 ·rw [if_pos k3] at h ⊢
  by_cases hf : v.fresh = true
  ·rw [if_pos hf] at h; cases h
  ·rw [if_neg hf]
   obtain ⟨_, _, c3, c4, c5, c6⟩ := curE_zero.1 (v1.resolve_left hf)
   exact ⟨hT, Vw.chk_zero.2 ⟨.inr (curE_zero.2 ⟨by simp [Vw.cur], by simp [Vw.cur], c3, c4, c5, c6⟩), v2⟩, fun l hl => ⟨by rw [List.append_nil]; exact hl.1, by rw [List.append_nil]; exact hl.2.1, by rw [List.append_nil]; exact hl.2.2⟩⟩
 rw [if_neg k3] at h ⊢
 by_cases k4 : kind = 4
 ·rw [if_pos k4] at h ⊢
  by_cases hn : n < 0 ∨ 1000000 < n
  ·rw [if_pos hn] at h; cases h
  ·rw [if_neg hn] at h ⊢
   by_cases hz : T.A.length = 0
   ·rw [if_pos hz] at h; cases h
   ·rw [if_neg hz]
    have he : seekE T.first T.L T.O n = 0 := by unfold seekE; rw [if_pos hs, if_neg (by omega), if_neg (by omega), if_neg hz]
    obtain ⟨_, _, _, _, en⟩ := seekE_zero he
    have hle := seekI_le (allG T.L T.O) n ((allG T.L T.O).length - 1)
    have hA6' : (allG T.L T.O).length ≤ 6 := hA6
    refine ⟨hT, Vw.chk_zero.2 ⟨.inr (curE_zero.2 ⟨by simp [Vw.cur], by simp [Vw.cur], ?_, ?_, by simp [Vw.cur], by simp [Vw.cur]⟩), v2⟩, fun l hl => ⟨by rw [List.append_nil]; exact hl.1, by rw [List.append_nil]; exact hl.2.1, fun _ => rfl⟩⟩
    ·show 0 ≤ seekN T.first T.L T.O n
     rw [en]; omega
    ·show seekN T.first T.L T.O n ≤ 100006
     rw [en]; omega
 rw [if_neg k4] at h ⊢
 by_cases hf : v.fresh = true
 ·rw [if_pos hf] at h; cases h
 rw [if_neg hf] at h ⊢
 by_cases hn : n < 0 ∨ 1000000 < n
 ·rw [if_pos hn] at h; cases h
 rw [if_neg hn] at h ⊢
 by_cases hE : (sendF T n 40 v []).2.2 = 0
 ·rw [if_pos hE]
  obtain ⟨q1, q2, r, q3, q4⟩ := send_right n hs 40 v [] (v1.resolve_left hf) v2 hE (.inl (Nat.le_refl _))
  refine ⟨hT, Vw.chk_zero.2 ⟨.inr q1, q2⟩, fun l hl => ?_⟩
  show Seen (sendF T n 40 v []).1 (l ++ (sendF T n 40 v []).2.1)
  rw [q3]
  exact q4 l hl
 ·rw [if_neg hE] at h; exact absurd h hE
theorem do_bad {T : Tr} {v : Vw} {kind n : Int} {x : ByteArray} (h : ¬ (doA T v kind n x).2.2.2 = 0) : (doA T v kind n x).1 = Tr.zero ∧ (doA T v kind n x).2.1 = Vw.zero ∧ (doA T v kind n x).2.2.1 = [] := by
 unfold doA at h ⊢
 by_cases h1 : T.chk = 0
 ·rw [if_pos h1] at h ⊢
  by_cases h2 : v.chk = 0
  ·rw [if_pos h2] at h ⊢
   unfold doR at h ⊢
   repeat' split
   all_goals first | exact ⟨rfl, rfl, rfl⟩ | (exfalso; simp_all)
  ·rw [if_neg h2]; exact ⟨rfl, rfl, rfl⟩
 ·rw [if_neg h1]; exact ⟨rfl, rfl, rfl⟩
structure Ac where
 kind : Int
 n : Int
 x : ByteArray
def stepD (s : Tr × Vw × List Pk × List Int) (a : Ac) : Tr × Vw × List Pk × List Int :=
 if (doA s.1 s.2.1 a.kind a.n a.x).2.2.2 = 0 then ((doA s.1 s.2.1 a.kind a.n a.x).1, (doA s.1 s.2.1 a.kind a.n a.x).2.1, s.2.2.1 ++ (doA s.1 s.2.1 a.kind a.n a.x).2.2.1, s.2.2.2 ++ [0])
 else (s.1, s.2.1, s.2.2.1, s.2.2.2 ++ [(doA s.1 s.2.1 a.kind a.n a.x).2.2.2])
def upD (l : List Ac) (k : Nat) : Tr × Vw × List Pk × List Int := (l.take k).foldl stepD (Tr.zero, Vw.zero, [], [])
def Ac.zero : Ac := ⟨0, 0, ByteArray.empty⟩
theorem upD_succ (l : List Ac) (k : Nat) (hk : k < l.length) : upD l (k + 1) = stepD (upD l k) (l[k]?.getD Ac.zero) := by
 unfold upD
 rw [take_one hk Ac.zero, List.foldl_append]; rfl
theorem zero_chk : Tr.zero.chk = 0 := by decide
theorem upD_right (l : List Ac) : ∀ k, k ≤ l.length → (upD l k).1.chk = 0 ∧ (upD l k).2.1.chk = 0 ∧ Seen (upD l k).2.1 (upD l k).2.2.1 ∧ (upD l k).2.2.2.length = k
 | 0, _ => ⟨zero_chk, (by show Vw.zero.chk = 0; decide), ⟨rfl, ⟨fun i hi => absurd hi (Nat.not_lt_zero _), rfl, fun h => absurd h (Nat.lt_irrefl _)⟩, fun _ => rfl⟩, rfl⟩
 | k + 1, hk => by
  obtain ⟨h1, h2, h3, h4⟩ := upD_right l k (by omega)
  rw [upD_succ l k (by omega)]
  unfold stepD
  split
  ·rename_i h
   obtain ⟨_, _, _, a1, a2, a3⟩ := do_right h
   exact ⟨a1, a2, a3 _ h3, by simp [h4]⟩
  ·exact ⟨h1, h2, h3, by simp [h4]⟩
end Go.Proofs.YtnpaejknoipicagGreat
namespace Go.Proofs.YtnpaejknoipicagGreat
open Go.RowKit
theorem eql_cur (a b c a' b' c' : Int) (w : World) : (binOp .eql 36 (.agg #[.int .i64 a, .int .i64 b, .int .i64 c]) (.agg #[.int .i64 a', .int .i64 b', .int .i64 c'])).run Tryz.prog w = .ok (.bool ((a == a') && ((b == b') && (c == c')))) w := by
 rw [run_eql_struct, run_equalIn_agg w 9999 36 _ _ (by kernel_rfl) (by kernel_rfl)]
 rw [show (Tryz.prog.fieldsOf 36) = _ by unfold Program.fieldsOf; rw [Tryz.underlying36]]
 cases h0 : (a == a')
 ·simp [go_sem, h0]
 cases h1 : (b == b')
 ·simp [go_sem, h0, h1]
 cases h2 : (c == c')
 ·simp [go_sem, h0, h1, h2]
 ·simp [go_sem, h0, h1, h2]
theorem FrsIn.at {S : Nat → Prop} {w : World} {ao : Option Addr} {n c k : Nat} {l : List Fr} (h : FrsIn S w (.slice ao n c) l) (hk : k < l.length) : ∃ b off pa pc, ao = some ⟨b, off, none⟩ ∧ b < w.heap.size ∧ S b ∧ w.cell? ⟨b, off + k * 3, none⟩ = some (.int .i64 (frAt l k).time) ∧ w.cell? ⟨b, off + k * 3 + 1, none⟩ = some (.bool (frAt l k).key) ∧ w.cell? ⟨b, off + k * 3 + 2, none⟩ = some (.slice pa (frAt l k).parts.length pc) ∧ StrsIn S w (.slice pa (frAt l k).parts.length pc) (frAt l k).parts := by
 obtain ⟨ao', c', e, _, _, hc⟩ := h
 injection e with e1 e2 e3
 subst e1 e2 e3
 obtain ⟨b, off, e1, hb, hS, pv, c0, c1, c2, hp⟩ := hc k hk
 obtain ⟨pa, pc, ep⟩ := hp.1.len
 have hp' : StrsIn S w pv (frAt l k).parts := hp
 subst ep
 exact ⟨b, off, pa, pc, e1, hb, hS, c0, c1, c2, hp'⟩
theorem GrsIn.at {S : Nat → Prop} {w : World} {ao : Option Addr} {n c k : Nat} {L : List (List Fr)} (h : GrsIn S w (.slice ao n c) L) (hk : k < L.length) : ∃ b off sa sc, ao = some ⟨b, off, none⟩ ∧ b < w.heap.size ∧ S b ∧ w.cell? ⟨b, off + k, none⟩ = some (.slice sa (grAt L k).length sc) ∧ FrsIn S w (.slice sa (grAt L k).length sc) (grAt L k) := by
 obtain ⟨ao', c', e, _, _, hc⟩ := h
 injection e with e1 e2 e3
 subst e1 e2 e3
 obtain ⟨b, off, e1, hb, hS, sv, c0, hs⟩ := hc k hk
 have hs' : FrsIn S w sv (grAt L k) := hs
 obtain ⟨sa, sc, es, _, _⟩ := hs'.len
 subst es
 exact ⟨b, off, sa, sc, e1, hb, hS, c0, hs'⟩
theorem StrsIn.slice {S : Nat → Prop} {w : World} {v : Value} {l : List ByteArray} (h : StrsIn S w v l) : ∃ a c, v = .slice a l.length c := h.1.len
def PksIn (S : Nat → Prop) (w : World) (v : Value) (l : List Pk) : Prop := Pks w v l ∧ ∀ g, v.ownBlock = some g → 0 < l.length → S g ∧ g < w.heap.size
theorem PksIn.to {S S' : Nat → Prop} {w w' : World} {v : Value} {l : List Pk} (h : PksIn S w v l) (hs : SameOn S w w') (hm : ∀ g, g < w.heap.size → S g → S' g) : PksIn S' w' v l := by
 obtain ⟨⟨h1, h2⟩, h4⟩ := h
 refine ⟨⟨h1, ?_⟩, fun g hg h0 => ⟨hm g (h4 g hg h0).2 (h4 g hg h0).1, Nat.lt_of_lt_of_le (h4 g hg h0).2 hs.1⟩⟩
 rcases h2 with h2 | ⟨b, off, c, rfl, hlt, hc⟩
 ·exact .inl h2
 ·by_cases h0 : 0 < l.length
  ·exact .inr ⟨b, off, c, rfl, Nat.lt_of_lt_of_le hlt hs.1, fun j u hj => (World.cell?_of_block (hs.2 b hlt (h4 b rfl h0).1)).trans (hc j u hj)⟩
  ·refine .inl ⟨by omega, some ⟨b, off, none⟩, c, by congr 1; omega⟩
theorem PksIn.below {S : Nat → Prop} {w w' : World} {v : Value} {l : List Pk} (h : PksIn S w v l) (hb : Below w.heap.size w w') : PksIn S w' v l := h.to (SameOn.of_below hb) fun _ _ h => h
theorem PksIn.mono {S S' : Nat → Prop} {w : World} {v : Value} {l : List Pk} (h : PksIn S w v l) (hm : ∀ g, g < w.heap.size → S g → S' g) : PksIn S' w v l := h.to (SameOn.refl _ _) hm
theorem PksIn.nil (S : Nat → Prop) (w : World) : PksIn S w (.slice none 0 0) [] := ⟨⟨rfl, .inl ⟨rfl, none, 0, rfl⟩⟩, fun g hg => by simp [Value.ownBlock] at hg⟩
theorem PksIn.len {S : Nat → Prop} {w : World} {v : Value} {l : List Pk} (h : PksIn S w v l) : ∃ a c, v = .slice a l.length c := Sl.len h.1
theorem pk_lt {w : World} {base n : Nat} {v : Value} {l : List Pk} (h : w.ownsRow base 63 6 v n (pkCells l)) : ∀ g, v.ownBlock = some g → base ≤ g ∧ g < w.heap.size := fun g hg => h.lt g hg
theorem PksIn.of_owns {w : World} {base : Nat} {v : Value} {l : List Pk} (h : w.ownsRow base 63 6 v l.length (pkCells l)) : PksIn (fun g => base ≤ g) w v l := ⟨Sl.of_owns h, fun g hg _ => pk_lt h g hg⟩
theorem pk_one (l : List Pk) : ∀ u ∈ pkCells l, u.oneCell' = true := fun u hu => by
 unfold pkCells at hu
 obtain ⟨p, _, hp⟩ := List.mem_flatMap.1 hu
 exact p.one2 u hp
theorem pk_app {base : Nat} {w : World} {v x : Value} {n : Nat} {l m : List Pk} (h : w.ownsRow base 63 6 v n (pkCells l)) (hx : Pks w x m) (hl : n + m.length ≤ 2000000000) (hb : base ≤ w.heap.size) :
  ∃ v' w', (Builtin.append_ #[42, 42] 42 #[v, x]).run Tryz.prog w = .ok v' w' ∧ w'.ownsRow base 63 6 v' (n + m.length) (pkCells (l ++ m)) ∧ w.grownBy w' v.ownBlock ∧ (v'.ownBlock = v.ownBlock ∨ ∀ g, v'.ownBlock = some g → w.heap.size ≤ g) := by
 obtain ⟨i0, hi, hz0, hz1, hz2⟩ := info_parts Tryz.infoPkt
 obtain ⟨v', w', r, o, g, d⟩ := run_append_any (P := Tryz.prog) w base 42 42 63 i0 _ 6 40 Tryz.underlying42 hi hz0 hz1 hz2 rfl (by decide) v n (pkCells l) h m.length (pkCells m) x hx (pk_one m) (by unfold maxLen; omega) (by omega) hb
 exact ⟨v', w', r, by rw [pkCells_append]; exact o, g, d⟩
theorem Blk.fourteen {w : World} {b : Nat} {x0 x1 x2 x3 x4 x5 x6 x7 x8 x9 x10 x11 x12 x13 : Value} {t : TypeId} (h : Blk w b #[x0, x1, x2, x3, x4, x5, x6, x7, x8, x9, x10, x11, x12, x13] t) :
  w.cell? ⟨b, 0, none⟩ = some x0 ∧ w.cell? ⟨b, 1, none⟩ = some x1 ∧ w.cell? ⟨b, 2, none⟩ = some x2 ∧ w.cell? ⟨b, 3, none⟩ = some x3 ∧ w.cell? ⟨b, 4, none⟩ = some x4 ∧ w.cell? ⟨b, 5, none⟩ = some x5 ∧ w.cell? ⟨b, 6, none⟩ = some x6 ∧ w.cell? ⟨b, 7, none⟩ = some x7 ∧ w.cell? ⟨b, 8, none⟩ = some x8 ∧ w.cell? ⟨b, 9, none⟩ = some x9 ∧ w.cell? ⟨b, 10, none⟩ = some x10 ∧ w.cell? ⟨b, 11, none⟩ = some x11 ∧ w.cell? ⟨b, 12, none⟩ = some x12 ∧ w.cell? ⟨b, 13, none⟩ = some x13 :=
 ⟨h.cell rfl, h.cell rfl, h.cell rfl, h.cell rfl, h.cell rfl, h.cell rfl, h.cell rfl, h.cell rfl, h.cell rfl, h.cell rfl, h.cell rfl, h.cell rfl, h.cell rfl, h.cell rfl⟩
abbrev dkC (v : Vw) (T : Tr) (hv bv gv ov sv : Value) : Array Value := #[.int .i64 v.m, .int .i64 v.g, .int .i64 v.f, .int .i64 v.l, .int .i64 v.t, .int .i64 v.s, .int .i64 T.last, .int .i64 T.next, hv, bv, .int .i64 T.first, gv, ov, sv]
abbrev Vw.val (v : Vw) : Value := .agg #[.int .i64 v.m, .int .i64 v.g, .int .i64 v.f, .int .i64 v.l, .int .i64 v.t, .int .i64 v.s]
set_option maxHeartbeats 2000000 in
theorem justSet_any (M : Nat) (m g f : Int) (x3 x4 x5 x6 x7 x8 x9 x10 x11 x12 x13 : Value) (w : World) (hM : Blk w M #[.int .i64 m, .int .i64 g, .int .i64 f, x3, x4, x5, x6, x7, x8, x9, x10, x11, x12, x13] 77) :
  Calls Tryz.prog 115 #[.pointer (some ⟨M, 0, none⟩)] w fun e w' => e = .returned (.bool (f == 0)) ∧ Below w.heap.size w w' := by
 have y2 : w.cell? ⟨M, 2, none⟩ = some (.int .i64 f) := hM.cell rfl
 have B := Below.refl w.heap.size w
 clear hM
 go_enter Tryz.func115, Tryz.ntmps115
 go_wp2
 go_ret
 exact ⟨rfl, B⟩
set_option maxHeartbeats 2000000 in
theorem isUnset_any (m g f : Int) (w : World) :
  Calls Tryz.prog 77 #[.agg #[.int .i64 m, .int .i64 g, .int .i64 f]] w fun e w' => e = .returned (.bool (m == 0 && (g == 0 && f == 0))) ∧ Below w.heap.size w w' := by
 have hq := fun W => eql_cur m g f 0 0 0 W
 have HB : Hid (Below w.heap.size w (w.alloc (.cells #[.int .i64 m, .int .i64 g, .int .i64 f] 36))) := (Below.refl _ _).alloc (Nat.le_refl _) _
 go_enter Tryz.func77, Tryz.ntmps77
 go_wp2
 go_ret
 exact ⟨rfl, HB.out⟩
set_option maxHeartbeats 8000000 in
set_option maxRecDepth 100000 in
theorem tkKeep_any (S : Nat → Prop) (M : Nat) (t : Tr) (c : Int) (f : Fr) (pv : Value) (w : World) (hT : TkB S M w t c) (hp : StrsIn (fun _ => True) w pv f.parts) (hS : ∀ g, w.heap.size ≤ g → S g) (hc0 : 0 ≤ c) (hc1 : c ≤ 1000000) :
  Calls Tryz.prog 161 #[.pointer (some ⟨M, 0, none⟩), .agg #[.int .i64 f.time, .bool f.key, pv]] w fun e w' => e = .returned (.int .i64 (addsE t.first t.L t.O f)) ∧ TkB S M w' ⟨t.last, t.next, t.h, t.o, addsF t.first t.L t.O f, addsL t.first t.L t.O f, addsO t.first t.L t.O f⟩ (c + (if addsB t.first t.L t.O f then (1 : Nat) else 0)) ∧ Kept [M] w w' := by
 obtain ⟨hv, bv, gv, ov, hM, hr⟩ := hT
 obtain ⟨ha, hc, ba, bc, ga, gc, oa, oc, eh, eb, eg, eo⟩ := hr.slices
 obtain ⟨pa, pc, ep⟩ := hp.1.len
 obtain ⟨last, hlast⟩ : ∃ x, x = t.last := ⟨_, rfl⟩
 obtain ⟨next, hnext⟩ : ∃ x, x = t.next := ⟨_, rfl⟩
 obtain ⟨first, hfirst⟩ : ∃ x, x = t.first := ⟨_, rfl⟩
 obtain ⟨hn, hhn⟩ : ∃ x, x = t.h.length := ⟨_, rfl⟩
 obtain ⟨bn, hbn⟩ : ∃ x, x = t.o.length := ⟨_, rfl⟩
 obtain ⟨ln, hln⟩ : ∃ x, x = t.L.length := ⟨_, rfl⟩
 obtain ⟨lo, hlo⟩ : ∃ x, x = t.O.length := ⟨_, rfl⟩
 obtain ⟨pn, hpn⟩ : ∃ x, x = f.parts.length := ⟨_, rfl⟩
 obtain ⟨ft, hft⟩ : ∃ x, x = f.time := ⟨_, rfl⟩
 obtain ⟨fk, hfk⟩ : ∃ x, x = f.key := ⟨_, rfl⟩
 obtain ⟨E1, hE1⟩ : ∃ E, E = addsE t.first t.L t.O f := ⟨_, rfl⟩
 obtain ⟨F1, hF1⟩ : ∃ E, E = addsF t.first t.L t.O f := ⟨_, rfl⟩
 obtain ⟨L1, hL1⟩ : ∃ E, E = addsL t.first t.L t.O f := ⟨_, rfl⟩
 obtain ⟨O1, hO1⟩ : ∃ E, E = addsO t.first t.L t.O f := ⟨_, rfl⟩
 obtain ⟨B1, hB1⟩ : ∃ E, E = addsB t.first t.L t.O f := ⟨_, rfl⟩
 obtain ⟨nA, hnA⟩ : ∃ n, n = L1.length := ⟨_, rfl⟩
 obtain ⟨nO, hnO⟩ : ∃ n, n = O1.length := ⟨_, rfl⟩
 have HADDw : Hid (∀ U : World, Below w.heap.size w U → Calls Tryz.prog 172 #[.agg #[.int .i64 first, gv, ov], .agg #[.int .i64 ft, .bool fk, pv]] U fun e w' => ∃ va vc qa qc, e = .returned (.tuple #[.agg #[.int .i64 F1, .slice va nA vc, .slice qa nO qc], .bool B1, .int .i64 E1]) ∧ Hid (GrsIn (fun g => U.heap.size ≤ g) w' (.slice va nA vc) L1) ∧ Hid (FrsIn (fun g => U.heap.size ≤ g) w' (.slice qa nO qc) O1) ∧ Below U.heap.size U w') := fun U hU => by
  rw [hft, hfk, hfirst]
  refine (storeAdd_new t.first gv ov pv t.L t.O f U ((hr.2.2.1.mono fun _ _ _ => trivial).below hU) ((hr.2.2.2.mono fun _ _ _ => trivial).below hU) (hp.below hU)).mono ?_
  rintro e w' ⟨gv', ov', rfl, h1, h2, h3⟩
  rw [← hL1] at h1
  rw [← hO1] at h2
  obtain ⟨va, vc, ev, _, _⟩ := h1.len
  obtain ⟨qa, qc, eq, _, _⟩ := h2.len
  rw [← hnA] at ev
  rw [← hnO] at eq
  subst ev eq
  rw [← hE1, ← hF1, ← hB1]
  exact ⟨va, vc, qa, qc, rfl, h1, h2, h3⟩
 rw [← hE1, ← hF1, ← hL1, ← hO1, ← hB1, ← hlast, ← hnext, ← hft, ← hfk]
 rw [← hlast, ← hnext, ← hfirst] at hM
 rw [← hhn] at eh
 rw [← hbn] at eb
 rw [← hln] at eg
 rw [← hlo] at eo
 rw [← hpn] at ep
 have HSU : Hid (∀ g, w.heap.size ≤ g → S g) := hS
 clear hlast hnext hfirst hhn hbn hln hlo hpn hft hfk hE1 hF1 hL1 hO1 hB1 hnA hnO hp hS
 subst eh eb eg eo ep
 have HMw : Hid (Blk w M #[.int .i64 last, .int .i64 next, .slice ha hn hc, .slice ba bn bc, .int .i64 first, .slice ga ln gc, .slice oa lo oc, .int .i64 c] 155) := hM
 have HRw : Hid (TrIn (fun g => S g ∧ g ≠ M) w (.slice ha hn hc) (.slice ba bn bc) (.slice ga ln gc) (.slice oa lo oc) t) := hr
 have hMw := hM.lt
 clear hM hr
 go_enter Tryz.func161, Tryz.ntmps161
 go_wp2_with fail
 obtain ⟨w0, hw0⟩ : ∃ w0, w0 = w.alloc (.cells #[.int .i64 ft, .bool fk, .slice pa pn pc] 98) := ⟨_, rfl⟩
 have HB0 : Hid (Below w.heap.size w w0) := by rw [hw0]; exact (Below.refl _ _).alloc (Nat.le_refl _) _
 have z0 : w0.heap.size = w.heap.size + 1 := by rw [hw0]; simp
 have HM0 : Hid (Blk w0 M #[.int .i64 last, .int .i64 next, .slice ha hn hc, .slice ba bn bc, .int .i64 first, .slice ga ln gc, .slice oa lo oc, .int .i64 c] 155) := HMw.out.below HB0.out hMw
 have HF0 : Hid (Blk w0 w.heap.size #[.int .i64 ft, .bool fk, .slice pa pn pc] 98) := Blk.newE hw0
 have HR0 : Hid (TrIn (fun g => S g ∧ g ≠ M) w0 (.slice ha hn hc) (.slice ba bn bc) (.slice ga ln gc) (.slice oa lo oc) t) := HRw.out.below HB0.out
 have HADD : Hid (∀ U : World, Below w0.heap.size w0 U → Calls Tryz.prog 172 #[.agg #[.int .i64 first, .slice ga ln gc, .slice oa lo oc], .agg #[.int .i64 ft, .bool fk, .slice pa pn pc]] U fun e w' => ∃ va vc qa qc, e = .returned (.tuple #[.agg #[.int .i64 F1, .slice va nA vc, .slice qa nO qc], .bool B1, .int .i64 E1]) ∧ Hid (GrsIn (fun g => U.heap.size ≤ g) w' (.slice va nA vc) L1) ∧ Hid (FrsIn (fun g => U.heap.size ≤ g) w' (.slice qa nO qc) O1) ∧ Below U.heap.size U w') := fun U hU => HADDw.out U (HB0.out.trans (hU.mono (by omega)))
 rw [← hw0]
 clear hw0 HMw HRw HADDw
 refine region_main (by kernel_rfl) (by kernel_rfl) [.quiet (.pointer (some ⟨M, 0, none⟩)), .quiet (.pointer (some ⟨M, 0, none⟩)), .quiet (.pointer (some ⟨M, 0, none⟩)), .quiet (.pointer (some ⟨M, 4, none⟩)), .quiet (.agg #[.int .i64 first, .slice ga ln gc, .slice oa lo oc]), .quiet (.agg #[.int .i64 ft, .bool fk, .slice pa pn pc]), .main, .fin (fun r => r), .fin (exT 0), .fin (exT 1), .fin (exT 2), .box 32 #[.int .i64 0, .slice none 0 0, .slice none 0 0], .put 11 (fun r => aggC (exT 0 r)), .fin (exT 1), .fin (exT 2)] 6 (by kernel_rfl)
  (fun S r w' => ∃ va vc qa qc, r = .tuple #[.agg #[.int .i64 F1, .slice va nA vc, .slice qa nO qc], .bool B1, .int .i64 E1] ∧ GrsIn (fun g => S g ∧ w0.heap.size ≤ g) w' (.slice va nA vc) L1 ∧ FrsIn (fun g => S g ∧ w0.heap.size ≤ g) w' (.slice qa nO qc) O1) ?loc ?step ?fin
 case loc =>
  rintro S r w1 w3 ⟨va, vc, qa, qc, rfl, h1, h2⟩ hs hsame
  exact ⟨va, vc, qa, qc, rfl, h1.to ⟨hs, fun g hg hS => hsame g hS.1 hg⟩ (fun _ _ h => h), h2.to ⟨hs, fun g hg hS => hsame g hS.1 hg⟩ (fun _ _ h => h)⟩
 case step =>
  intro i o ho a' w' r hb hfree hvals
  have f0 : a'.eval (.tmp 0) = .pointer (some ⟨M, 0, none⟩) := (hfree 0 (by kernel_rfl)).trans rfl
  have f3 : a'.eval (.tmp 3) = .pointer (some ⟨w.heap.size, 0, none⟩) := (hfree 3 (by kernel_rfl)).trans rfl
  obtain ⟨y0, y1, y2, y3, y4, y5, y6, y7⟩ := (HM0.out.below hb HM0.out.lt).eight
  obtain ⟨j0, j1, j2⟩ := (HF0.out.below hb HF0.out.lt).three
  match i, ho with
  | 0, ho =>
   simp at ho; subst ho
   show (execOp a'.eval _).run _ w' = .ok (.value _) w'
   generalize a'.eval = ρ at *
   simp [execOp, go_sem, f0]
  | 1, ho =>
   simp at ho; subst ho
   have e9 : a'.eval (.tmp 9) = .pointer (some ⟨M, 0, none⟩) := hvals 0 _ (by kernel_rfl) rfl
   show (execOp a'.eval _).run _ w' = .ok (.value _) w'
   generalize a'.eval = ρ at *
   simp [execOp, go_sem, e9]
  | 2, ho =>
   simp at ho; subst ho
   have e10 : a'.eval (.tmp 10) = .pointer (some ⟨M, 0, none⟩) := hvals 1 _ (by kernel_rfl) rfl
   show (execOp a'.eval _).run _ w' = .ok (.value _) w'
   generalize a'.eval = ρ at *
   simp [execOp, go_sem, e10]
  | 3, ho =>
   simp at ho; subst ho
   have e11 : a'.eval (.tmp 11) = .pointer (some ⟨M, 0, none⟩) := hvals 2 _ (by kernel_rfl) rfl
   show (execOp a'.eval _).run _ w' = .ok (.value _) w'
   generalize a'.eval = ρ at *
   simp [execOp, go_sem, e11]
  | 4, ho =>
   simp at ho; subst ho
   have e12 : a'.eval (.tmp 12) = .pointer (some ⟨M, 4, none⟩) := hvals 3 _ (by kernel_rfl) rfl
   show (execOp a'.eval _).run _ w' = .ok (.value _) w'
   generalize a'.eval = ρ at *
   simp [execOp, go_sem, e12, y4, y5, y6]
  | 5, ho =>
   simp at ho; subst ho
   show (execOp a'.eval _).run _ w' = .ok (.value _) w'
   generalize a'.eval = ρ at *
   simp [execOp, go_sem, f3, j0, j1, j2]
  | 6, ho =>
   simp at ho; subst ho
   have e13 : a'.eval (.tmp 13) = .agg #[.int .i64 first, .slice ga ln gc, .slice oa lo oc] := hvals 4 _ (by kernel_rfl) rfl
   have e14 : a'.eval (.tmp 14) = .agg #[.int .i64 ft, .bool fk, .slice pa pn pc] := hvals 5 _ (by kernel_rfl) rfl
   have ef : a'.eval (.func 172) = .func (.func 172) #[] #[] := rfl
   show ∃ f args, (execOp a'.eval _).run _ w' = .ok (.enter f args) w' ∧ _
   generalize a'.eval = ρ at *
   refine ⟨172, #[.agg #[.int .i64 first, .slice ga ln gc, .slice oa lo oc], .agg #[.int .i64 ft, .bool fk, .slice pa pn pc]], by simp [execOp, go_sem, e13, e14, ef], ?_⟩
   refine (HADD.out w' hb).mono ?_
   rintro e w'' ⟨va, vc, qa, qc, rfl, h1, h2, hb4⟩
   exact ⟨_, rfl, ⟨va, vc, qa, qc, rfl, h1.out.mono (fun g hl hg => ⟨⟨hl, .inr hg⟩, (by have := hb.size; omega)⟩), h2.out.mono (fun g hl hg => ⟨⟨hl, .inr hg⟩, (by have := hb.size; omega)⟩)⟩, hb4⟩
  | 7, ho =>
   simp at ho; subst ho
   have e15 : a'.eval (.tmp 15) = r := hvals 6 _ (by kernel_rfl) rfl
   show ∀ S, _ → (execOp a'.eval _).run _ w' = .ok (.value _) w'
   rintro S ⟨va, vc, qa, qc, rfl, _, _⟩
   try simp only [exT] at e15
   generalize a'.eval = ρ at *
   simp [execOp, go_sem, e15]
  | 8, ho =>
   simp at ho; subst ho
   have e8 : a'.eval (.tmp 8) = r := hvals 7 _ (by kernel_rfl) rfl
   show ∀ S, _ → (execOp a'.eval _).run _ w' = .ok (.value _) w'
   rintro S ⟨va, vc, qa, qc, rfl, _, _⟩
   try simp only [exT] at e8
   generalize a'.eval = ρ at *
   simp [execOp, go_sem, e8, exT]
  | 9, ho =>
   simp at ho; subst ho
   have e8 : a'.eval (.tmp 8) = r := hvals 7 _ (by kernel_rfl) rfl
   show ∀ S, _ → (execOp a'.eval _).run _ w' = .ok (.value _) w'
   rintro S ⟨va, vc, qa, qc, rfl, _, _⟩
   try simp only [exT] at e8
   generalize a'.eval = ρ at *
   simp [execOp, go_sem, e8, exT]
  | 10, ho =>
   simp at ho; subst ho
   have e8 : a'.eval (.tmp 8) = r := hvals 7 _ (by kernel_rfl) rfl
   show ∀ S, _ → (execOp a'.eval _).run _ w' = .ok (.value _) w'
   rintro S ⟨va, vc, qa, qc, rfl, _, _⟩
   try simp only [exT] at e8
   generalize a'.eval = ρ at *
   simp [execOp, go_sem, e8, exT]
  | 11, ho =>
   simp at ho; subst ho
   show (execOp a'.eval _).run _ w' = .ok (.value _) _
   generalize a'.eval = ρ at *
   simp [execOp, go_sem]
  | 12, ho =>
   simp at ho; subst ho
   have e16 : a'.eval (.tmp 16) = (exT 0) r := hvals 8 _ (by kernel_rfl) rfl
   show ∀ S, _ → ∀ t z g C, _ → _ → _ → _ → ∃ w'', (execOp a'.eval _).run _ w' = .ok .skip w'' ∧ _
   rintro S ⟨va, vc, qa, qc, rfl, _, _⟩ t z g C hz hC hs (eb : a'.eval (.tmp 5) = _)
   cases hz
   obtain ⟨u0, u1, u2, q0, q1, q2⟩ := cells3 hC hs
   have p0 := hC.free 0
   have p1 := hC.free 1
   have p2 := hC.free 2
   obtain ⟨m1, m2, m3⟩ := set3 hC hs (.int .i64 F1) (.slice va nA vc) (.slice qa nO qc)
   simp only [exT] at e16
   generalize a'.eval = ρ at *
   exact ⟨_, by simp [execOp, go_sem, e16, eb, q0, q1, q2, p0, p1, p2], m1, m2, rfl, m3, rfl, rfl, rfl⟩
  | 13, ho =>
   simp at ho; subst ho
   have e17 : a'.eval (.tmp 17) = (exT 1) r := hvals 9 _ (by kernel_rfl) rfl
   show ∀ S, _ → (execOp a'.eval _).run _ w' = .ok (.value _) w'
   rintro S ⟨va, vc, qa, qc, rfl, _, _⟩
   try simp only [exT] at e17
   generalize a'.eval = ρ at *
   simp [execOp, go_sem, e17, exT]
  | 14, ho =>
   simp at ho; subst ho
   have e18 : a'.eval (.tmp 18) = (exT 2) r := hvals 10 _ (by kernel_rfl) rfl
   show ∀ S, _ → (execOp a'.eval _).run _ w' = .ok (.value _) w'
   rintro S ⟨va, vc, qa, qc, rfl, _, _⟩
   try simp only [exT] at e18
   generalize a'.eval = ρ at *
   simp [execOp, go_sem, e18, exT]
  | i + 15, ho => simp at ho
 case fin =>
  rintro r gs Sr W hb ⟨va, vc, qa, qc, rfl, h1, h2⟩ hS hbox hap
  obtain ⟨p1, p2, C, p3, p4⟩ := hbox 11 _ _ (by decide) rfl
  have p5 := p4 12 _ (by decide) rfl
  subst p5
  have KP : Hid (Blk W (gs 11) #[.int .i64 F1, .slice va nA vc, .slice qa nO qc] 32) := p3
  simp only [putK, Kd.out, exT, Act.put, List.setIfInBounds_toArray, List.set_cons_succ, List.set_cons_zero, List.getElem?_toArray, List.getElem?_cons_zero, List.getElem?_cons_succ, Option.getD_some]
  obtain ⟨p, hp⟩ : ∃ p, p = gs 11 := ⟨_, rfl⟩
  rw [← hp] at KP p1
  rw [← hp]
  have HBW : Hid (Below w0.heap.size w0 W) := hb
  have H1 : Hid (GrsIn (fun g => w0.heap.size ≤ g) W (.slice va nA vc) L1) := h1.mono fun _ _ h => h.2
  have H2 : Hid (FrsIn (fun g => w0.heap.size ≤ g) W (.slice qa nO qc) O1) := h2.mono fun _ _ h => h.2
  clear hp h1 h2 hS hbox hap p2 p3 p4 hb
  have HMW : Hid (Blk W M #[.int .i64 last, .int .i64 next, .slice ha hn hc, .slice ba bn bc, .int .i64 first, .slice ga ln gc, .slice oa lo oc, .int .i64 c] 155) := HM0.out.below HBW.out HM0.out.lt
  have HRW : Hid (TrIn (fun g => S g ∧ g ≠ M) W (.slice ha hn hc) (.slice ba bn bc) (.slice ga ln gc) (.slice oa lo oc) t) := HR0.out.below HBW.out
  obtain ⟨x0, x1, x2⟩ := KP.out.three
  obtain ⟨y0, y1, y2, y3, y4, y5, y6, y7⟩ := HMW.out.eight
  have fM := HMW.out.free
  have lM := HMW.out.lt
  have hpM : ¬ p = M := by omega
  obtain ⟨V, hV⟩ : ∃ V, V = ((W.setCell ⟨M, 4, none⟩ (.int .i64 F1)).setCell ⟨M, 5, none⟩ (.slice va nA vc)).setCell ⟨M, 6, none⟩ (.slice qa nO qc) := ⟨_, rfl⟩
  have hVo : ∀ g, g ≠ M → V.heap[g]? = W.heap[g]? := fun g hg => by
   rw [hV, Below.heap_setCell _ _ _ _ (by exact hg), Below.heap_setCell _ _ _ _ (by exact hg), Below.heap_setCell _ _ _ _ (by exact hg)]
  have hVs : V.heap.size = W.heap.size := by rw [hV]; simp
  have HMV : Hid (Blk V M #[.int .i64 last, .int .i64 next, .slice ha hn hc, .slice ba bn bc, .int .i64 F1, .slice va nA vc, .slice qa nO qc, .int .i64 c] 155) := by
   have := ((HMW.out.set 4 (.int .i64 F1)).set 5 (.slice va nA vc)).set 6 (.slice qa nO qc)
   rw [hV]; simpa [Hid] using this
  have HKV : Hid (Kept [M] w V) := by
   rw [hV]
   have k := (Kept.refl [M] w).below (HB0.out.trans (HBW.out.mono HB0.out.size))
   exact ((k.setCell (p := ⟨M, 4, none⟩) (by simp) _).setCell (p := ⟨M, 5, none⟩) (by simp) _).setCell (p := ⟨M, 6, none⟩) (by simp) _
  have HRV : Hid (SlsIn (fun g => S g ∧ g ≠ M) V (.slice ha hn hc) t.h ∧ SlsIn (fun g => S g ∧ g ≠ M) V (.slice ba bn bc) t.o ∧ GrsIn (fun g => S g ∧ g ≠ M) V (.slice va nA vc) L1 ∧ FrsIn (fun g => S g ∧ g ≠ M) V (.slice qa nO qc) O1) := by
   have so : SameOn (fun g => g ≠ M) W V := ⟨by omega, fun g _ hg => hVo g hg⟩
   have hsz := HB0.out.size
   exact ⟨HRW.out.1.to (so.mono fun g h => h.2) (fun _ _ h => h), HRW.out.2.1.to (so.mono fun g h => h.2) (fun _ _ h => h), H1.out.to (so.mono fun g h => by omega) (fun g _ h => ⟨HSU.out g (by omega), by omega⟩), H2.out.to (so.mono fun g h => by omega) (fun g _ h => ⟨HSU.out g (by omega), by omega⟩)⟩
  clear hVo hVs H1 H2 HRW HMW
  cases B1
  case false =>
   go_wp2_with fail
   rw [← hV]
   go_wp2
   go_ret
   refine ⟨rfl, ⟨_, _, _, _, ?_, HRV.out⟩, HKV.out⟩
   have := HMV.out
   simpa using this
  case true =>
   obtain ⟨V2, hV2⟩ : ∃ X, X = V.setCell ⟨M, 7, none⟩ (.int .i64 (c + 1)) := ⟨_, rfl⟩
   have HMV2 : Hid (Blk V2 M #[.int .i64 last, .int .i64 next, .slice ha hn hc, .slice ba bn bc, .int .i64 F1, .slice va nA vc, .slice qa nO qc, .int .i64 (c + 1)] 155) := by
    have := HMV.out.set 7 (.int .i64 (c + 1))
    rw [hV2]; simpa [Hid] using this
   have HKV2 : Hid (Kept [M] w V2) := by rw [hV2]; exact HKV.out.setCell (p := ⟨M, 7, none⟩) (by simp) _
   have HRV2 : Hid (SlsIn (fun g => S g ∧ g ≠ M) V2 (.slice ha hn hc) t.h ∧ SlsIn (fun g => S g ∧ g ≠ M) V2 (.slice ba bn bc) t.o ∧ GrsIn (fun g => S g ∧ g ≠ M) V2 (.slice va nA vc) L1 ∧ FrsIn (fun g => S g ∧ g ≠ M) V2 (.slice qa nO qc) O1) := by
    have so : SameOn (fun g => S g ∧ g ≠ M) V V2 := ⟨by rw [hV2]; simp, fun g _ hg => by rw [hV2, Below.heap_setCell _ _ _ _ (by exact hg.2)]⟩
    exact ⟨HRV.out.1.to so (fun _ _ h => h), HRV.out.2.1.to so (fun _ _ h => h), HRV.out.2.2.1.to so (fun _ _ h => h), HRV.out.2.2.2.to so (fun _ _ h => h)⟩
   go_upto_region 4 with fail
   rw [← hV]
   clear hV x0 x1 x2 y0 y1 y2 y3 y4 y5 y6 y7 fM lM
   obtain ⟨y0, y1, y2, y3, y4, y5, y6, y7⟩ := HMV.out.eight
   have fM := HMV.out.free
   have lM := HMV.out.lt
   go_wp2_with fail
   rw [← hV2]
   go_wp2
   go_ret
   exact ⟨rfl, ⟨_, _, _, _, HMV2.out, HRV2.out⟩, HKV2.out⟩
set_option maxHeartbeats 8000000 in
set_option maxRecDepth 100000 in
theorem tkAdd_any (S : Nat → Prop) (M : Nat) (t : Tr) (c : Int) (x : Sk) (w : World) (hT : TkB S M w t c) (hto : ochk t.o = 0) (hx : x.chk = 0) (hS : ∀ g, w.heap.size ≤ g → S g) (hc0 : 0 ≤ c) (hc1 : c ≤ 1000000) :
  Calls Tryz.prog 141 #[.pointer (some ⟨M, 0, none⟩), x.val] w fun e w' => e = .returned (.int .i64 (tk1 t x).2.2) ∧ TkB S M w' (tk1 t x).1 (c + (tk1 t x).2.1) ∧ Kept [M] w w' := by
 obtain ⟨hv, bv, gv, ov, hM, hr⟩ := hT
 obtain ⟨ha, hc, ba, bc, ga, gc, oa, oc, eh, eb, eg, eo⟩ := hr.slices
 obtain ⟨last, hlast⟩ : ∃ x, x = t.last := ⟨_, rfl⟩
 obtain ⟨next, hnext⟩ : ∃ x, x = t.next := ⟨_, rfl⟩
 obtain ⟨first, hfirst⟩ : ∃ x, x = t.first := ⟨_, rfl⟩
 obtain ⟨hn, hhn⟩ : ∃ x, x = t.h.length := ⟨_, rfl⟩
 obtain ⟨bn, hbn⟩ : ∃ x, x = t.o.length := ⟨_, rfl⟩
 obtain ⟨ln, hln⟩ : ∃ x, x = t.L.length := ⟨_, rfl⟩
 obtain ⟨lo, hlo⟩ : ∃ x, x = t.O.length := ⟨_, rfl⟩
 obtain ⟨B1, hB1⟩ : ∃ E, E = addO t.o x := ⟨_, rfl⟩
 obtain ⟨T1, hT1⟩ : ∃ E, E = addT t.o x := ⟨_, rfl⟩
 obtain ⟨K1, hK1⟩ : ∃ E, E = addK t.o x := ⟨_, rfl⟩
 obtain ⟨P1, hP1⟩ : ∃ E, E = addP t.o x := ⟨_, rfl⟩
 obtain ⟨W1, hW1⟩ : ∃ E, E = addW t.o x := ⟨_, rfl⟩
 obtain ⟨nB, hnB⟩ : ∃ n, n = B1.length := ⟨_, rfl⟩
 obtain ⟨nP, hnP⟩ : ∃ n, n = P1.length := ⟨_, rfl⟩
 have HWW : Hid (W1 = addW t.o x ∧ B1 = addO t.o x ∧ T1 = addT t.o x ∧ K1 = addK t.o x ∧ P1 = addP t.o x) := ⟨hW1, hB1, hT1, hK1, hP1⟩
 have HADDw : Hid (∀ U : World, Below w.heap.size w U → Calls Tryz.prog 133 #[.agg #[bv], .agg #[.int .i64 x.n, .int .i64 x.p.seq, .int .i64 x.p.time, .bool x.p.f, .bool x.p.e, .bool x.p.k, .string x.p.t]] U fun e w' => ∃ va vc qa qc, e = .returned (.tuple #[.agg #[.slice va nB vc], .agg #[.int .i64 T1, .bool K1, .slice qa nP qc], .bool W1, .int .i64 0]) ∧ Hid (SlsIn (fun g => U.heap.size ≤ g) w' (.slice va nB vc) B1) ∧ Hid (StrsIn (fun g => U.heap.size ≤ g) w' (.slice qa nP qc) P1) ∧ Below U.heap.size U w') := fun U hU => by
  obtain ⟨o1, o2, o3⟩ := ochk_len hto
  refine (frameAdd_any bv t.o x U (hr.2.1.below hU).1 (by omega)).mono ?_
  rintro e w' ⟨ov', pv', rfl, ⟨h1, h2, h3, h4⟩, h5⟩
  have e0 : addE t.o x = 0 := by unfold addE; rw [if_pos hto]; exact hx
  have e1 : addR t.o x = ⟨addO t.o x, addT t.o x, addK t.o x, addP t.o x, addW t.o x⟩ := by unfold addR; rw [if_pos e0]
  rw [e1] at h1 h2 ⊢
  simp only at h1 h2 ⊢
  rw [← hB1] at h1
  rw [← hP1] at h2
  obtain ⟨va, vc, ev⟩ := h1.len
  obtain ⟨qa, qc, eq⟩ := h2.len
  rw [← hnB] at ev
  rw [← hnP] at eq
  subst ev eq
  rw [e0, ← hT1, ← hK1, ← hW1]
  have l1 : B1.length ≤ 3 := by rw [hB1]; exact addO_len _ _ o1
  have l2 : P1.length ≤ 4 := by rw [hP1]; exact addP_len _ _ o1
  exact ⟨va, vc, qa, qc, rfl, SlsIn.of h1 (by omega) (fun g hg _ => (h3 g hg).1), ⟨h2, by omega, fun g hg _ => h4 g hg⟩, h5⟩
 rw [← hlast, ← hnext, ← hfirst] at hM
 rw [← hhn] at eh
 rw [← hbn] at eb
 rw [← hln] at eg
 rw [← hlo] at eo
 have HSU : Hid (∀ g, w.heap.size ≤ g → S g) := hS
 have HTT : Hid (last = t.last ∧ next = t.next ∧ first = t.first) := ⟨hlast, hnext, hfirst⟩
 clear hlast hnext hfirst hhn hbn hln hlo hB1 hT1 hK1 hP1 hW1 hnB hnP hS hx hto
 subst eh eb eg eo
 have HMw : Hid (Blk w M #[.int .i64 last, .int .i64 next, .slice ha hn hc, .slice ba bn bc, .int .i64 first, .slice ga ln gc, .slice oa lo oc, .int .i64 c] 155) := hM
 have HRw : Hid (TrIn (fun g => S g ∧ g ≠ M) w (.slice ha hn hc) (.slice ba bn bc) (.slice ga ln gc) (.slice oa lo oc) t) := hr
 have hMw := hM.lt
 clear hM hr
 simp only [Sk.val]
 go_enter Tryz.func141, Tryz.ntmps141
 go_wp2_with fail
 obtain ⟨w0, hw0⟩ : ∃ w0, w0 = w.alloc (.cells #[.int .i64 x.n, .int .i64 x.p.seq, .int .i64 x.p.time, .bool x.p.f, .bool x.p.e, .bool x.p.k, .string x.p.t] 106) := ⟨_, rfl⟩
 have HB0 : Hid (Below w.heap.size w w0) := by rw [hw0]; exact (Below.refl _ _).alloc (Nat.le_refl _) _
 have z0 : w0.heap.size = w.heap.size + 1 := by rw [hw0]; simp
 have HM0 : Hid (Blk w0 M #[.int .i64 last, .int .i64 next, .slice ha hn hc, .slice ba bn bc, .int .i64 first, .slice ga ln gc, .slice oa lo oc, .int .i64 c] 155) := HMw.out.below HB0.out hMw
 have HF0 : Hid (Blk w0 w.heap.size #[.int .i64 x.n, .int .i64 x.p.seq, .int .i64 x.p.time, .bool x.p.f, .bool x.p.e, .bool x.p.k, .string x.p.t] 106) := Blk.newE hw0
 have HR0 : Hid (TrIn (fun g => S g ∧ g ≠ M) w0 (.slice ha hn hc) (.slice ba bn bc) (.slice ga ln gc) (.slice oa lo oc) t) := HRw.out.below HB0.out
 have HADD : Hid (∀ U : World, Below w0.heap.size w0 U → Calls Tryz.prog 133 #[.agg #[.slice ba bn bc], .agg #[.int .i64 x.n, .int .i64 x.p.seq, .int .i64 x.p.time, .bool x.p.f, .bool x.p.e, .bool x.p.k, .string x.p.t]] U fun e w' => ∃ va vc qa qc, e = .returned (.tuple #[.agg #[.slice va nB vc], .agg #[.int .i64 T1, .bool K1, .slice qa nP qc], .bool W1, .int .i64 0]) ∧ Hid (SlsIn (fun g => U.heap.size ≤ g) w' (.slice va nB vc) B1) ∧ Hid (StrsIn (fun g => U.heap.size ≤ g) w' (.slice qa nP qc) P1) ∧ Below U.heap.size U w') := fun U hU => HADDw.out U (HB0.out.trans (hU.mono (by omega)))
 rw [← hw0]
 clear hw0 HMw HRw HADDw
 refine region_main (by kernel_rfl) (by kernel_rfl) [.quiet (.pointer (some ⟨M, 0, none⟩)), .quiet (.pointer (some ⟨M, 0, none⟩)), .quiet (.pointer (some ⟨M, 0, none⟩)), .quiet (.pointer (some ⟨M, 3, none⟩)), .quiet (.agg #[.slice ba bn bc]), .quiet (.agg #[.int .i64 x.n, .int .i64 x.p.seq, .int .i64 x.p.time, .bool x.p.f, .bool x.p.e, .bool x.p.k, .string x.p.t]), .main, .fin (fun r => r), .fin (exT 0), .fin (exT 1), .fin (exT 2), .fin (exT 3), .box 26 #[.slice none 0 0], .box 98 #[.int .i64 0, .bool false, .slice none 0 0], .put 12 (fun r => aggC (exT 0 r)), .put 13 (fun r => aggC (exT 1 r)), .fin (exT 2), .fin (exT 3)] 6 (by kernel_rfl)
  (fun S r w' => ∃ va vc qa qc, r = .tuple #[.agg #[.slice va nB vc], .agg #[.int .i64 T1, .bool K1, .slice qa nP qc], .bool W1, .int .i64 0] ∧ SlsIn (fun g => S g ∧ w0.heap.size ≤ g) w' (.slice va nB vc) B1 ∧ StrsIn (fun g => S g ∧ w0.heap.size ≤ g) w' (.slice qa nP qc) P1) ?loc ?step ?fin
 case loc =>
  rintro S r w1 w3 ⟨va, vc, qa, qc, rfl, h1, h2⟩ hs hsame
  exact ⟨va, vc, qa, qc, rfl, h1.to ⟨hs, fun g hg hS => hsame g hS.1 hg⟩ (fun _ _ h => h), h2.to ⟨hs, fun g hg hS => hsame g hS.1 hg⟩ (fun _ _ h => h)⟩
 case step =>
  intro i o ho a' w' r hb hfree hvals
  have f0 : a'.eval (.tmp 0) = .pointer (some ⟨M, 0, none⟩) := (hfree 0 (by kernel_rfl)).trans rfl
  have f3 : a'.eval (.tmp 3) = .pointer (some ⟨w.heap.size, 0, none⟩) := (hfree 3 (by kernel_rfl)).trans rfl
  obtain ⟨y0, y1, y2, y3, y4, y5, y6, y7⟩ := (HM0.out.below hb HM0.out.lt).eight
  obtain ⟨j0, j1, j2, j3, j4, j5, j6⟩ := (HF0.out.below hb HF0.out.lt).sevenc
  match i, ho with
  | 0, ho =>
   simp at ho; subst ho
   show (execOp a'.eval _).run _ w' = .ok (.value _) w'
   generalize a'.eval = ρ at *
   simp [execOp, go_sem, f0]
  | 1, ho =>
   simp at ho; subst ho
   have e10 : a'.eval (.tmp 10) = .pointer (some ⟨M, 0, none⟩) := hvals 0 _ (by kernel_rfl) rfl
   show (execOp a'.eval _).run _ w' = .ok (.value _) w'
   generalize a'.eval = ρ at *
   simp [execOp, go_sem, e10]
  | 2, ho =>
   simp at ho; subst ho
   have e11 : a'.eval (.tmp 11) = .pointer (some ⟨M, 0, none⟩) := hvals 1 _ (by kernel_rfl) rfl
   show (execOp a'.eval _).run _ w' = .ok (.value _) w'
   generalize a'.eval = ρ at *
   simp [execOp, go_sem, e11]
  | 3, ho =>
   simp at ho; subst ho
   have e12 : a'.eval (.tmp 12) = .pointer (some ⟨M, 0, none⟩) := hvals 2 _ (by kernel_rfl) rfl
   show (execOp a'.eval _).run _ w' = .ok (.value _) w'
   generalize a'.eval = ρ at *
   simp [execOp, go_sem, e12]
  | 4, ho =>
   simp at ho; subst ho
   have e13 : a'.eval (.tmp 13) = .pointer (some ⟨M, 3, none⟩) := hvals 3 _ (by kernel_rfl) rfl
   show (execOp a'.eval _).run _ w' = .ok (.value _) w'
   generalize a'.eval = ρ at *
   simp [execOp, go_sem, e13, y3]
  | 5, ho =>
   simp at ho; subst ho
   show (execOp a'.eval _).run _ w' = .ok (.value _) w'
   generalize a'.eval = ρ at *
   simp [execOp, go_sem, f3, j0, j1, j2, j3, j4, j5, j6]
  | 6, ho =>
   simp at ho; subst ho
   have e14 : a'.eval (.tmp 14) = .agg #[.slice ba bn bc] := hvals 4 _ (by kernel_rfl) rfl
   have e15 : a'.eval (.tmp 15) = .agg #[.int .i64 x.n, .int .i64 x.p.seq, .int .i64 x.p.time, .bool x.p.f, .bool x.p.e, .bool x.p.k, .string x.p.t] := hvals 5 _ (by kernel_rfl) rfl
   have ef : a'.eval (.func 133) = .func (.func 133) #[] #[] := rfl
   show ∃ f args, (execOp a'.eval _).run _ w' = .ok (.enter f args) w' ∧ _
   generalize a'.eval = ρ at *
   refine ⟨133, #[.agg #[.slice ba bn bc], .agg #[.int .i64 x.n, .int .i64 x.p.seq, .int .i64 x.p.time, .bool x.p.f, .bool x.p.e, .bool x.p.k, .string x.p.t]], by simp [execOp, go_sem, e14, e15, ef], ?_⟩
   refine (HADD.out w' hb).mono ?_
   rintro e w'' ⟨va, vc, qa, qc, rfl, h1, h2, hb4⟩
   exact ⟨_, rfl, ⟨va, vc, qa, qc, rfl, h1.out.mono (fun g hl hg => ⟨⟨hl, .inr hg⟩, (by have := hb.size; omega)⟩), h2.out.mono (fun g hl hg => ⟨⟨hl, .inr hg⟩, (by have := hb.size; omega)⟩)⟩, hb4⟩
  | 7, ho =>
   simp at ho; subst ho
   have e16 : a'.eval (.tmp 16) = r := hvals 6 _ (by kernel_rfl) rfl
   show ∀ S, _ → (execOp a'.eval _).run _ w' = .ok (.value _) w'
   rintro S ⟨va, vc, qa, qc, rfl, _, _⟩
   try simp only [exT] at e16
   generalize a'.eval = ρ at *
   simp [execOp, go_sem, e16]
  | 8, ho =>
   simp at ho; subst ho
   have e9 : a'.eval (.tmp 9) = r := hvals 7 _ (by kernel_rfl) rfl
   show ∀ S, _ → (execOp a'.eval _).run _ w' = .ok (.value _) w'
   rintro S ⟨va, vc, qa, qc, rfl, _, _⟩
   try simp only [exT] at e9
   generalize a'.eval = ρ at *
   simp [execOp, go_sem, e9, exT]
  | 9, ho =>
   simp at ho; subst ho
   have e9 : a'.eval (.tmp 9) = r := hvals 7 _ (by kernel_rfl) rfl
   show ∀ S, _ → (execOp a'.eval _).run _ w' = .ok (.value _) w'
   rintro S ⟨va, vc, qa, qc, rfl, _, _⟩
   try simp only [exT] at e9
   generalize a'.eval = ρ at *
   simp [execOp, go_sem, e9, exT]
  | 10, ho =>
   simp at ho; subst ho
   have e9 : a'.eval (.tmp 9) = r := hvals 7 _ (by kernel_rfl) rfl
   show ∀ S, _ → (execOp a'.eval _).run _ w' = .ok (.value _) w'
   rintro S ⟨va, vc, qa, qc, rfl, _, _⟩
   try simp only [exT] at e9
   generalize a'.eval = ρ at *
   simp [execOp, go_sem, e9, exT]
  | 11, ho =>
   simp at ho; subst ho
   have e9 : a'.eval (.tmp 9) = r := hvals 7 _ (by kernel_rfl) rfl
   show ∀ S, _ → (execOp a'.eval _).run _ w' = .ok (.value _) w'
   rintro S ⟨va, vc, qa, qc, rfl, _, _⟩
   try simp only [exT] at e9
   generalize a'.eval = ρ at *
   simp [execOp, go_sem, e9, exT]
  | 12, ho =>
   simp at ho; subst ho
   show (execOp a'.eval _).run _ w' = .ok (.value _) _
   generalize a'.eval = ρ at *
   simp [execOp, go_sem]
  | 13, ho =>
   simp at ho; subst ho
   show (execOp a'.eval _).run _ w' = .ok (.value _) _
   generalize a'.eval = ρ at *
   simp [execOp, go_sem]
  | 14, ho =>
   simp at ho; subst ho
   have e17 : a'.eval (.tmp 17) = (exT 0) r := hvals 8 _ (by kernel_rfl) rfl
   show ∀ S, _ → ∀ t z g C, _ → _ → _ → _ → ∃ w'', (execOp a'.eval _).run _ w' = .ok .skip w'' ∧ _
   rintro S ⟨va, vc, qa, qc, rfl, _, _⟩ t z g C hz hC hs (eb : a'.eval (.tmp 5) = _)
   cases hz
   obtain ⟨u0, q0⟩ := cells1 hC hs
   have p0 := hC.free 0
   obtain ⟨m1, m2, m3⟩ := set1 hC hs (.slice va nB vc)
   simp only [exT] at e17
   generalize a'.eval = ρ at *
   exact ⟨_, by simp [execOp, go_sem, e17, eb, q0, p0], m1, m2, rfl, m3, rfl, rfl, rfl⟩
  | 15, ho =>
   simp at ho; subst ho
   have e18 : a'.eval (.tmp 18) = (exT 1) r := hvals 9 _ (by kernel_rfl) rfl
   show ∀ S, _ → ∀ t z g C, _ → _ → _ → _ → ∃ w'', (execOp a'.eval _).run _ w' = .ok .skip w'' ∧ _
   rintro S ⟨va, vc, qa, qc, rfl, _, _⟩ t z g C hz hC hs (eb : a'.eval (.tmp 6) = _)
   cases hz
   obtain ⟨u0, u1, u2, q0, q1, q2⟩ := cells3 hC hs
   have p0 := hC.free 0
   have p1 := hC.free 1
   have p2 := hC.free 2
   obtain ⟨m1, m2, m3⟩ := set3 hC hs (.int .i64 T1) (.bool K1) (.slice qa nP qc)
   simp only [exT] at e18
   generalize a'.eval = ρ at *
   exact ⟨_, by simp [execOp, go_sem, e18, eb, q0, q1, q2, p0, p1, p2], m1, m2, rfl, m3, rfl, rfl, rfl⟩
  | 16, ho =>
   simp at ho; subst ho
   have e19 : a'.eval (.tmp 19) = (exT 2) r := hvals 10 _ (by kernel_rfl) rfl
   show ∀ S, _ → (execOp a'.eval _).run _ w' = .ok (.value _) w'
   rintro S ⟨va, vc, qa, qc, rfl, _, _⟩
   try simp only [exT] at e19
   generalize a'.eval = ρ at *
   simp [execOp, go_sem, e19, exT]
  | 17, ho =>
   simp at ho; subst ho
   have e20 : a'.eval (.tmp 20) = (exT 3) r := hvals 11 _ (by kernel_rfl) rfl
   show ∀ S, _ → (execOp a'.eval _).run _ w' = .ok (.value _) w'
   rintro S ⟨va, vc, qa, qc, rfl, _, _⟩
   try simp only [exT] at e20
   generalize a'.eval = ρ at *
   simp [execOp, go_sem, e20, exT]
  | i + 18, ho => simp at ho
 case fin =>
  rintro r gs Sr W hb ⟨va, vc, qa, qc, rfl, h1, h2⟩ hS hbox hap
  obtain ⟨p1, p2, C, p3, p4⟩ := hbox 12 _ _ (by decide) rfl
  have p5 := p4 14 _ (by decide) rfl
  subst p5
  obtain ⟨o1, o2, C', o3, o4⟩ := hbox 13 _ _ (by decide) rfl
  have o5 := o4 15 _ (by decide) rfl
  subst o5
  have KP : Hid (Blk W (gs 12) #[.slice va nB vc] 26) := p3
  have KO : Hid (Blk W (gs 13) #[.int .i64 T1, .bool K1, .slice qa nP qc] 98) := o3
  simp only [putK, Kd.out, exT, Act.put, List.setIfInBounds_toArray, List.set_cons_succ, List.set_cons_zero, List.getElem?_toArray, List.getElem?_cons_zero, List.getElem?_cons_succ, Option.getD_some]
  obtain ⟨p, hp⟩ : ∃ p, p = gs 12 := ⟨_, rfl⟩
  obtain ⟨o, ho⟩ : ∃ p, p = gs 13 := ⟨_, rfl⟩
  rw [← hp] at KP p1
  rw [← ho] at KO o1
  rw [← hp, ← ho]
  have HBW : Hid (Below w0.heap.size w0 W) := hb
  have H1 : Hid (SlsIn (fun g => w0.heap.size ≤ g) W (.slice va nB vc) B1) := h1.mono fun _ _ h => h.2
  have H2 : Hid (StrsIn (fun g => w0.heap.size ≤ g) W (.slice qa nP qc) P1) := h2.mono fun _ _ h => h.2
  clear hp ho h1 h2 hS hbox hap p2 p3 p4 o2 o3 o4 hb
  have HMW : Hid (Blk W M #[.int .i64 last, .int .i64 next, .slice ha hn hc, .slice ba bn bc, .int .i64 first, .slice ga ln gc, .slice oa lo oc, .int .i64 c] 155) := HM0.out.below HBW.out HM0.out.lt
  have HRW : Hid (TrIn (fun g => S g ∧ g ≠ M) W (.slice ha hn hc) (.slice ba bn bc) (.slice ga ln gc) (.slice oa lo oc) t) := HR0.out.below HBW.out
  have x0 := KP.out.one
  obtain ⟨y0, y1, y2, y3, y4, y5, y6, y7⟩ := HMW.out.eight
  have fM := HMW.out.free
  have lM := HMW.out.lt
  have hpM : ¬ p = M := by omega
  have hoM : ¬ o = M := by omega
  obtain ⟨V, hV⟩ : ∃ V, V = W.setCell ⟨M, 3, none⟩ (.slice va nB vc) := ⟨_, rfl⟩
  have hVo : ∀ g, g ≠ M → V.heap[g]? = W.heap[g]? := fun g hg => by
   rw [hV, Below.heap_setCell _ _ _ _ (by exact hg)]
  have hVs : V.heap.size = W.heap.size := by rw [hV]; simp
  have HMV : Hid (Blk V M #[.int .i64 last, .int .i64 next, .slice ha hn hc, .slice va nB vc, .int .i64 first, .slice ga ln gc, .slice oa lo oc, .int .i64 c] 155) := by
   have := HMW.out.set 3 (.slice va nB vc)
   rw [hV]; simpa [Hid] using this
  have HKV : Hid (Kept [M] w V) := by
   rw [hV]
   have k := (Kept.refl [M] w).below (HB0.out.trans (HBW.out.mono HB0.out.size))
   exact k.setCell (p := ⟨M, 3, none⟩) (by simp) _
  have KOV : Hid (Blk V o #[.int .i64 T1, .bool K1, .slice qa nP qc] 98) := (hVo o hoM).trans KO.out
  have HTV : Hid (TkB S M V ⟨t.last, t.next, t.h, B1, t.first, t.L, t.O⟩ c) := by
   have so : SameOn (fun g => g ≠ M) W V := ⟨by omega, fun g _ hg => hVo g hg⟩
   have hsz := HB0.out.size
   refine ⟨_, _, _, _, by rw [HTT.out.1, HTT.out.2.1, HTT.out.2.2] at HMV; exact HMV.out, HRW.out.1.to (so.mono fun g h => h.2) (fun _ _ h => h), H1.out.to (so.mono fun g h => by omega) (fun g _ h => ⟨HSU.out g (by omega), by omega⟩), HRW.out.2.2.1.to (so.mono fun g h => h.2) (fun _ _ h => h), HRW.out.2.2.2.to (so.mono fun g h => h.2) (fun _ _ h => h)⟩
  have HPV : Hid (StrsIn (fun _ => True) V (.slice qa nP qc) P1) := by
   have so : SameOn (fun g => g ≠ M) W V := ⟨by omega, fun g _ hg => hVo g hg⟩
   exact H2.out.to (so.mono fun g h => by omega) (fun _ _ _ => trivial)
  have hsV : w.heap.size ≤ V.heap.size := HKV.out.size
  clear hVo hVs H1 H2 HRW HMW
  cases W1
  case false =>
   have h1 : tk1 t x = (⟨t.last, t.next, t.h, B1, t.first, t.L, t.O⟩, 0, 0) := by
    have hw := HWW.out
    unfold tk1; rw [← hw.1, ← hw.2.1]; rfl
   have HH1 : Hid (tk1 t x = (⟨t.last, t.next, t.h, B1, t.first, t.L, t.O⟩, 0, 0)) := h1
   clear h1
   go_wp2_with fail
   rw [← hV]
   go_wp2
   go_ret
   rw [HH1.out]
   exact ⟨rfl, by simpa using HTV.out, HKV.out⟩
  case true =>
   have h1 : tk1 t x = (⟨t.last, t.next, t.h, B1, addsF t.first t.L t.O ⟨T1, K1, P1⟩, addsL t.first t.L t.O ⟨T1, K1, P1⟩, addsO t.first t.L t.O ⟨T1, K1, P1⟩⟩, if addsB t.first t.L t.O ⟨T1, K1, P1⟩ then 1 else 0, addsE t.first t.L t.O ⟨T1, K1, P1⟩) := by
    have hw := HWW.out
    unfold tk1; rw [← hw.1, ← hw.2.1]; unfold addF; rw [← hw.2.2.1, ← hw.2.2.2.1, ← hw.2.2.2.2]; rfl
   have HH1 : Hid (tk1 t x = (⟨t.last, t.next, t.h, B1, addsF t.first t.L t.O ⟨T1, K1, P1⟩, addsL t.first t.L t.O ⟨T1, K1, P1⟩, addsO t.first t.L t.O ⟨T1, K1, P1⟩⟩, if addsB t.first t.L t.O ⟨T1, K1, P1⟩ then 1 else 0, addsE t.first t.L t.O ⟨T1, K1, P1⟩)) := h1
   have HKEEP : Hid (Calls Tryz.prog 161 #[.pointer (some ⟨M, 0, none⟩), .agg #[.int .i64 T1, .bool K1, .slice qa nP qc]] V fun e w' => e = .returned (.int .i64 (addsE t.first t.L t.O ⟨T1, K1, P1⟩)) ∧ TkB S M w' ⟨t.last, t.next, t.h, B1, addsF t.first t.L t.O ⟨T1, K1, P1⟩, addsL t.first t.L t.O ⟨T1, K1, P1⟩, addsO t.first t.L t.O ⟨T1, K1, P1⟩⟩ (c + (if addsB t.first t.L t.O ⟨T1, K1, P1⟩ then (1 : Nat) else 0)) ∧ Kept [M] V w') :=
    tkKeep_any S M _ c ⟨T1, K1, P1⟩ _ V HTV.out HPV.out (fun g hg => HSU.out g (by omega)) hc0 hc1
   obtain ⟨E9, hE9⟩ : ∃ e, e = addsE t.first t.L t.O ⟨T1, K1, P1⟩ := ⟨_, rfl⟩
   obtain ⟨C9, hC9⟩ : ∃ e : Int, e = c + (if addsB t.first t.L t.O ⟨T1, K1, P1⟩ then (1 : Nat) else 0) := ⟨_, rfl⟩
   obtain ⟨T9, hT9⟩ : ∃ e : Tr, e = ⟨t.last, t.next, t.h, B1, addsF t.first t.L t.O ⟨T1, K1, P1⟩, addsL t.first t.L t.O ⟨T1, K1, P1⟩, addsO t.first t.L t.O ⟨T1, K1, P1⟩⟩ := ⟨_, rfl⟩
   have HC9 : Hid (C9 = c + (if addsB t.first t.L t.O ⟨T1, K1, P1⟩ then (1 : Nat) else 0)) := hC9
   rw [← hE9, ← hC9, ← hT9] at HKEEP
   rw [← hE9, ← hT9] at HH1
   clear h1 hE9 hC9 hT9 HTV HPV
   go_upto_region 4 with fail
   rw [← hV]
   clear hV x0 y0 y1 y2 y3 y4 y5 y6 y7 fM lM
   obtain ⟨f0, f1, f2⟩ := KOV.out.three
   go_wp2_with fail
   refine HKEEP.out.mono ?_
   rintro e w9 ⟨rfl, t9, k9⟩
   have T9' : Hid (TkB S M w9 T9 C9) := t9
   have K9 : Hid (Kept [M] w w9) := HKV.out.trans k9
   clear t9 k9 f0 f1 f2
   go_wp2
   go_ret
   rw [HH1.out]
   refine ⟨rfl, ?_, K9.out⟩
   have := T9'.out
   rw [HC9.out] at this
   simpa using this
theorem SlsIn.kept {S : Nat → Prop} {K : List Nat} {w w' : World} {v : Value} {l : List Sk} (h : SlsIn S w v l) (hk : Kept K w w') (hS : ∀ g, S g → g ∉ K) : SlsIn S w' v l := h.to ⟨hk.size, fun g hg hs => hk.block g hg (hS g hs)⟩ (fun _ _ h => h)
theorem SlsIn.at {S : Nat → Prop} {w : World} {ao : Option Addr} {n c k : Nat} {l : List Sk} (h : SlsIn S w (.slice ao n c) l) (hk : k < l.length) : ∃ b off, ao = some ⟨b, off, none⟩ ∧ b < w.heap.size ∧ At7 w b (off + k * 7) (l[k]?.getD Sk.zero) := by
 obtain ⟨ao', c', e, hc⟩ := h.1.parts
 injection e with e1 _ _
 subst e1
 exact hc k hk
theorem tkN_drop {l : List Sk} {k : Nat} (hk : k < l.length) (s : Tr × Nat) : tkN (l.drop k) s = if (tk1 s.1 (l[k]?.getD Sk.zero)).2.2 = 0 then tkN (l.drop (k + 1)) ((tk1 s.1 (l[k]?.getD Sk.zero)).1, s.2 + (tk1 s.1 (l[k]?.getD Sk.zero)).2.1) else (Tr.zero, 0, (tk1 s.1 (l[k]?.getD Sk.zero)).2.2) := by
 rw [List.drop_eq_getElem_cons hk, List.getElem?_eq_getElem hk, Option.getD_some]
 rfl
theorem tk1_le (t : Tr) (x : Sk) : (tk1 t x).2.1 ≤ 1 := by
 unfold tk1
 cases addW t.o x
 ·exact Nat.zero_le _
 ·simp only [if_true]
  split <;> omega
set_option maxHeartbeats 8000000 in
set_option maxRecDepth 100000 in
theorem tkPass_any (S : Nat → Prop) (M : Nat) (t : Tr) (c : Nat) (next' : Int) (hv' v : Value) (h' l : List Sk) (w : World) (hT : TkB S M w t c) (hok : TkOk t) (hh : SlsIn (fun g => S g ∧ g ≠ M) w hv' h') (hv : SlsIn (fun g => g ≠ M) w v l) (hl : ∀ x ∈ l, x.chk = 0) (hlen : l.length ≤ 100) (hS : ∀ g, w.heap.size ≤ g → S g) (hc : c ≤ 1000) :
  Calls Tryz.prog 106 #[.pointer (some ⟨M, 0, none⟩), .agg #[.int .i64 next', hv'], v, .int .i64 0] w fun e w' => e = .returned (.int .i64 (tkN l (t.buf t.last next' h', c)).2.2) ∧ ((tkN l (t.buf t.last next' h', c)).2.2 = 0 → TkB S M w' (tkN l (t.buf t.last next' h', c)).1 ((tkN l (t.buf t.last next' h', c)).2.1 : Nat)) ∧ Kept [M] w w' := by
 obtain ⟨hv0, bv, gv, ov, hM, hr⟩ := hT
 obtain ⟨ha, hcc, ba, bc, ga, gc, oa, oc, eh, eb, eg, eo⟩ := hr.slices
 obtain ⟨na, nc, en⟩ := hh.len
 obtain ⟨va, vc, ev⟩ := hv.len
 obtain ⟨n, hn⟩ : ∃ x, x = l.length := ⟨_, rfl⟩
 obtain ⟨nh, hnh⟩ : ∃ x, x = h'.length := ⟨_, rfl⟩
 obtain ⟨last, hlast⟩ : ∃ x, x = t.last := ⟨_, rfl⟩
 obtain ⟨next, hnext⟩ : ∃ x, x = t.next := ⟨_, rfl⟩
 obtain ⟨first, hfirst⟩ : ∃ x, x = t.first := ⟨_, rfl⟩
 obtain ⟨hn0, hhn⟩ : ∃ x, x = t.h.length := ⟨_, rfl⟩
 obtain ⟨bn, hbn⟩ : ∃ x, x = t.o.length := ⟨_, rfl⟩
 obtain ⟨ln, hln⟩ : ∃ x, x = t.L.length := ⟨_, rfl⟩
 obtain ⟨lo, hlo⟩ : ∃ x, x = t.O.length := ⟨_, rfl⟩
 obtain ⟨R, hR⟩ : ∃ x, x = tkN l (t.buf t.last next' h', c) := ⟨_, rfl⟩
 rw [← hn] at ev hlen
 rw [← hnh] at en
 rw [← hlast, ← hnext, ← hfirst] at hM
 rw [← hhn] at eh
 rw [← hbn] at eb
 rw [← hln] at eg
 rw [← hlo] at eo
 have HN : Hid (n = l.length) := hn
 have HSU : Hid (∀ g, w.heap.size ≤ g → S g) := hS
 have HTT : Hid (last = t.last ∧ next = t.next ∧ first = t.first) := ⟨hlast, hnext, hfirst⟩
 have HRR : Hid (R = tkN (l.drop 0) (t.buf t.last next' h', c)) := by rw [List.drop_zero]; exact hR
 have HCH : Hid (∀ x ∈ l, x.chk = 0) := hl
 have HOK : Hid (TkOk t) := hok
 rw [← hR]
 clear hn hnh hlast hnext hfirst hhn hbn hln hlo hR hS hl hok
 subst eh eb eg eo en ev
 have HMw : Hid (Blk w M #[.int .i64 last, .int .i64 next, .slice ha hn0 hcc, .slice ba bn bc, .int .i64 first, .slice ga ln gc, .slice oa lo oc, .int .i64 c] 155) := hM
 have HRw : Hid (TrIn (fun g => S g ∧ g ≠ M) w (.slice ha hn0 hcc) (.slice ba bn bc) (.slice ga ln gc) (.slice oa lo oc) t) := hr
 have HHw : Hid (SlsIn (fun g => S g ∧ g ≠ M) w (.slice na nh nc) h') := hh
 have HVw : Hid (SlsIn (fun g => g ≠ M) w (.slice va n vc) l) := hv
 have hMw := hM.lt
 clear hM hr hh hv
 go_enter Tryz.func106, Tryz.ntmps106
 obtain ⟨y0, y1, y2, y3, y4, y5, y6, y7⟩ := HMw.out.eight
 have fM := HMw.out.free
 obtain ⟨V, hV⟩ : ∃ V, V = ((w.setCell ⟨M, 1, none⟩ (.int .i64 next')).setCell ⟨M, 2, none⟩ (.slice na nh nc)).alloc (.cells #[.int .i64 next', .slice na nh nc] 24) := ⟨_, rfl⟩
 have HKV : Hid (Kept [M] w V) := by
  rw [hV]; exact (((Kept.refl [M] w).setCell (p := ⟨M, 1, none⟩) (by simp) _).setCell (p := ⟨M, 2, none⟩) (by simp) _).alloc _
 have HTV : Hid (TkB S M V (t.buf t.last next' h') c) := by
  have hm := ((HMw.out.set 1 (.int .i64 next')).set 2 (.slice na nh nc)).alloc (.cells #[.int .i64 next', .slice na nh nc] 24)
  rw [← hV, HTT.out.1, HTT.out.2.2] at hm
  have so : SameOn (fun g => S g ∧ g ≠ M) w V := ⟨HKV.out.size, fun g hg h => HKV.out.block g hg (by simp; exact h.2)⟩
  exact ⟨_, _, _, _, by simpa [Tr.buf] using hm, HHw.out.to so (fun _ _ h => h), HRw.out.2.1.to so (fun _ _ h => h), HRw.out.2.2.1.to so (fun _ _ h => h), HRw.out.2.2.2.to so (fun _ _ h => h)⟩
 have HVV : Hid (SlsIn (fun g => g ≠ M) V (.slice va n vc) l) := HVw.out.kept HKV.out (fun g h => by simpa using h)
 have hsV : w.heap.size ≤ V.heap.size := HKV.out.size
 clear HMw HRw HHw HVw HTT
 go_wp2_with fail
 rw [← hV]
 clear hV y0 y1 y2 y3 y4 y5 y6 y7 fM hMw
 go_loopw [19] (fun i wr => ∃ (k : Nat) (tk : Tr) (ck : Nat), k ≤ n ∧ i = .int .i64 k ∧ Hid (TkB S M wr tk ck) ∧ Hid (TkOk tk) ∧ Hid (R = tkN (l.drop k) (tk, ck)) ∧ ck ≤ c + k ∧ Hid (Kept [M] V wr))
  (fun i _ => n - (intOf i).toNat)
 case atStart => exact ⟨0, _, c, Nat.zero_le _, rfl, HTV.out, HOK.out, HRR.out, by omega, Kept.refl _ _⟩
 case round =>
  obtain ⟨k, tk, ck, hk, rfl, HT, HO, HR, hck, HK⟩ := hrel
  clear HTV HRR HOK
  by_cases hlt : k < n
  ·have hlti : (k : Int) < (n : Int) := by omega
   have hkl : k < l.length := by rw [← HN.out]; exact hlt
   have HVr : Hid (SlsIn (fun g => g ≠ M) wr (.slice va n vc) l) := HVV.out.kept HK.out (fun g h => by simpa using h)
   obtain ⟨b, off, e1, hb, d0, d1, d2, d3, d4, d5, d6⟩ := HVr.out.at hkl
   obtain ⟨x, hx⟩ : ∃ x, x = l[k]?.getD Sk.zero := ⟨_, rfl⟩
   rw [← hx] at d0 d1 d2 d3 d4 d5 d6
   have hxc : x.chk = 0 := by
    rw [hx, List.getElem?_eq_getElem hkl, Option.getD_some]; exact HCH.out _ (List.getElem_mem _)
   have hs9 : w.heap.size ≤ wr.heap.size := Nat.le_trans hsV HK.out.size
   obtain ⟨E, hE⟩ : ∃ e, e = (tk1 tk x).2.2 := ⟨_, rfl⟩
   have HRX : Hid (R = if E = 0 then tkN (l.drop (k + 1)) ((tk1 tk x).1, ck + (tk1 tk x).2.1) else (Tr.zero, 0, E)) := by
    show R = _
    rw [HR.out, tkN_drop hkl, ← hx, ← hE]
   have HADD : Hid (∀ W : World, Below wr.heap.size wr W → Calls Tryz.prog 141 #[.pointer (some ⟨M, 0, none⟩), .agg #[.int .i64 x.n, .int .i64 x.p.seq, .int .i64 x.p.time, .bool x.p.f, .bool x.p.e, .bool x.p.k, .string x.p.t]] W fun e w' => e = .returned (.int .i64 E) ∧ Hid (TkB S M w' (tk1 tk x).1 (ck + (tk1 tk x).2.1 : Nat)) ∧ Hid (Kept [M] V w')) := fun W hW => by
    have hsz := hW.size
    refine (tkAdd_any S M tk ck x W (HT.out.below hW) HO.out.1 hxc (fun g hg => HSU.out g (by omega)) (by omega) (by omega)).mono ?_
    rintro e w' ⟨rfl, h2, h3⟩
    rw [hE]
    exact ⟨rfl, by simpa [Hid] using h2, (HK.out.below hW).trans h3⟩
   have HO2 : Hid (E = 0 → TkOk (tk1 tk x).1) := fun h => by
    rcases tk1_ok HO.out hxc with ⟨_, h'⟩ | h'
    ·exact h'
    ·rw [← hE, h] at h'; cases h'
   have hle := tk1_le tk x
   subst e1
   clear hx hE HR HT HO hxc
   go_upto_region 5 with fail
   obtain ⟨W1, hW1⟩ : ∃ X, X = wr.alloc (.cells #[.int .i64 x.n, .int .i64 x.p.seq, .int .i64 x.p.time, .bool x.p.f, .bool x.p.e, .bool x.p.k, .string x.p.t] 106) := ⟨_, rfl⟩
   have HB1 : Hid (Below wr.heap.size wr W1) := by rw [hW1]; exact (Below.refl _ _).alloc (Nat.le_refl _) _
   have KX : Hid (Blk W1 wr.heap.size #[.int .i64 x.n, .int .i64 x.p.seq, .int .i64 x.p.time, .bool x.p.f, .bool x.p.e, .bool x.p.k, .string x.p.t] 106) := Blk.newE hW1
   rw [← hW1]
   clear hW1 d0 d1 d2 d3 d4 d5 d6 hb HVr
   obtain ⟨d0, d1, d2, d3, d4, d5, d6⟩ := KX.out.sevenc
   go_wp2_with fail
   refine (HADD.out W1 HB1.out).mono ?_
   rintro e w2 ⟨rfl, HT2, HK2⟩
   clear d0 d1 d2 d3 d4 d5 d6 KX HB1 HADD
   by_cases hE0 : E = 0
   ·have HRX' : Hid (R = tkN (l.drop (k + 1)) ((tk1 tk x).1, ck + (tk1 tk x).2.1)) := by show R = _; rw [HRX.out, if_pos hE0]
    have HO3 : Hid (TkOk (tk1 tk x).1) := HO2.out hE0
    clear HRX HO2
    subst hE0
    go_wp2_with fail
    go_roundw
    case rel => exact ⟨k + 1, _, _, by omega, by go_num, HT2.out, HO3.out, HRX'.out, by omega, HK2.out⟩
    case measure => simp [intOf]; omega
   ·have HRX' : Hid (R = (Tr.zero, 0, E)) := by show R = _; rw [HRX.out, if_neg hE0]
    clear HRX HO2
    go_wp2
    go_ret
    rw [HRX'.out]
    exact ⟨rfl, fun h => absurd h hE0, HKV.out.trans HK2.out⟩
  ·have hkn : k = n := by omega
   subst hkn
   have HRX' : Hid (R = (tk, ck, 0)) := by
    show R = _
    rw [HR.out, HN.out, List.drop_length]; rfl
   clear HR
   go_wp2
   go_ret
   rw [HRX'.out]
   exact ⟨rfl, fun _ => HT.out, HKV.out.trans HK.out⟩
def lsk (n time : Int) (f e k : Bool) : Sk := ⟨n, ⟨n % 65536, time, f, e, k, ⟨#[116]⟩⟩⟩
theorem bufPut_any (next : Int) (v : Value) (l : List Sk) (x : Sk) (w : World) (hv : Sls w v l) (hlen : l.length ≤ 9223372036854775807) :
  Calls Tryz.prog 107 #[.agg #[.int .i64 next, v], x.val] w fun e w' => ∃ hv' ov', e = .returned (.tuple #[.agg #[.int .i64 (putR next l x).1, hv'], ov', .int .i64 (putE next l x)]) ∧
   Fresh w.heap.size w' hv' (putR next l x).2.1 ∧ Fresh w.heap.size w' ov' (putR next l x).2.2 ∧ Below w.heap.size w w' := by
 by_cases hE : putE next l x = 0
 ·have hp : pchk next l = 0 := by
   unfold putE at hE
   by_cases h : pchk next l = 0
   ·exact h
   ·rw [if_neg h] at hE; exact absurd hE h
  have hx : x.chk = 0 := by unfold putE at hE; rw [if_pos hp] at hE; exact hE
  have hr : putR next l x = putF next l x := by unfold putR; rw [if_pos hE]
  rw [hE, hr]
  exact bufPut_ok next v l x w hv ((pchk_right next l).1 hp) hx
 ·have hr : putR next l x = (0, [], []) := by unfold putR; rw [if_neg hE]
  rw [hr]
  refine (bufPut_no next v l x w hv hlen hE).mono ?_
  rintro e w' ⟨rfl, hb⟩
  exact ⟨_, _, rfl, Fresh.nil _ _, Fresh.nil _ _, hb⟩
abbrev bx (n : Int) : Sk := lsk n 1 true true true
inductive Cm where
 | quiet (v : Value) (lim : Nat)
 | step (s : Nat)
 | fin (t : Nat) (f : Value → Value)
 | box
def cmAt (ks : List Cm) (i : Nat) : Cm := (ks[i]?).getD (.quiet undef 0)
def Cm.out (r : Nat → Value) (b : Nat → Option Nat) (i : Nat) : Cm → Value
 | .quiet v _ => v
 | .step s => r s
 | .fin t f => f (r t)
 | .box => match b i with
  | some g => .pointer (some ⟨g, 0, none⟩)
  | none => undef
def Cm.isBox : Cm → Bool
 | .box => true
 | _ => false
def putM (r : Nat → Value) (b : Nat → Option Nat) : Nat → List Cm → List Oper → Act → Act
 | k, d :: ks, o :: l, a => putM r b (k + 1) ks l (a.put o.dst (d.out r b k))
 | _, _, _, a => a
def updO (b : Nat → Option Nat) (i : Nat) (g : Nat) : Nat → Option Nat := fun j => if j = i then some g else b j
def boxesOk (ks : List Cm) (l : List Oper) (st : List Nat) (n : Nat) : Bool :=
 decide (ks.length = l.length) && (l.all fun o => match o.dst with | some k => decide (k < n) | none => true) &&
 ((List.range st.length).all fun s => match st[s]? with
  | some i => decide (i < l.length) && (match cmAt ks i with | .step t => t == s | _ => false) && (s == 0 || (match st[s - 1]? with | some j => waits l i j | none => false))
  | none => false) &&
 ((List.range l.length).all fun i => match cmAt ks i with
  | .quiet _ lim => decide (st.length ≤ lim) || (match st[lim]? with | some j => waits l j i | none => false)
  | .step t => st[t]? == some i
  | .fin t _ => (List.range l.length).any fun j => waits l i j && (match cmAt ks j with | .step t' => t' == t | .fin t' _ => t' == t | _ => false)
  | .box => true)
section
variable {P : Program} {Q : Exit → Act → World → Prop}
structure RBx (ks : List Cm) (l : List Oper) (n m : Nat) (I : Nat → (Nat → Value) → (Nat → Option Nat) → World → Prop) (ls : Nat → Bool) (vs : Nat → Value) (s : Nat) (r : Nat → Value) (b : Nat → Option Nat) (w' : World) : Prop where
 lt : ∀ i, ls i = true → i < n
 steps : ∀ i t, i < n → cmAt ks i = .step t → (ls i = true ↔ t < s)
 fins : ∀ i t f, ls i = true → cmAt ks i = .fin t f → t < s
 box : ∀ i, i < n → cmAt ks i = .box → (ls i = true ↔ (b i).isSome = true)
 vals : ∀ i, ls i = true → vs i = (cmAt ks i).out r b i
 inv : I s r b w'
 le : s ≤ m
 closed : ∀ i j, ls j = true → waits l j i = true → ls i = true
theorem putM_all (L : Array Bool) (vs : Nat → Value) (r : Nat → Value) (b : Nat → Option Nat) : ∀ (l : List Oper) (k : Nat) (ks : List Cm) (a : Act), ks.length = l.length → (∀ i, i < l.length → L.getD (k + i) false = true) → (∀ i, i < l.length → vs (k + i) = (cmAt ks i).out r b (k + i)) → putL L vs k l a = putM r b k ks l a
 | [], _, [], _, _, _, _ => rfl
 | o :: l, k, d :: ks, a, hl, hL, hv => by
  simp only [putL, putM]
  rw [if_pos (by simpa using hL 0 (by simp)), show vs k = d.out r b k by simpa [cmAt] using hv 0 (by simp)]
  refine putM_all L vs r b l (k + 1) ks _ (by simpa using hl) (fun i hi => ?_) (fun i hi => ?_)
  ·have := hL (i + 1) (by simpa using hi)
   rw [show k + (i + 1) = k + 1 + i by omega] at this; exact this
  ·have := hv (i + 1) (by simpa using hi)
   rw [show k + (i + 1) = k + 1 + i by omega] at this
   simpa [cmAt] using this
theorem region_boxes {id : Nat} {a : Act} {w : World} {l : List Oper} (hm : P.follows .mixedOrders = true) (hB : regOk l = true) (ks : List Cm) (st : List Nat) (hK : boxesOk ks l st a.tmps.size = true)
  (I : Nat → (Nat → Value) → (Nat → Option Nat) → World → Prop) (h0 : I 0 (fun _ => undef) (fun _ => none) { w with drawn := w.drawn + 1 })
  (hstep : ∀ i o, l[i]? = some o → ∀ (a' : Act) (w' : World) (s : Nat) (r : Nat → Value) (b : Nat → Option Nat), I s r b w' → (∀ s, (l.all fun o => o.dst != some s) = true → a'.eval (.tmp s) = a.eval (.tmp s)) → (∀ j oj k, waits l i j = true → l[j]? = some oj → oj.dst = some k → a'.eval (.tmp k) = (cmAt ks j).out r b j) → (∀ j, waits l i j = true → cmAt ks j = .box → (b j).isSome = true) →
   match cmAt ks i with
   | .quiet v lim => s ≤ lim → (execOp a'.eval o).run P w' = .ok (.value v) w'
   | .step t => s = t → o.wp P a' w' (fun a'' w'' => ∃ v, a'' = a'.put o.dst v ∧ I (t + 1) (updR r t v) b w'') Q
   | .fin t f => t < s → (execOp a'.eval o).run P w' = .ok (.value (f (r t))) w'
   | .box => b i = none → ∃ ob, (execOp a'.eval o).run P w' = .ok (.value (.pointer (some ⟨w'.heap.size, 0, none⟩))) (w'.alloc ob) ∧ I s r (updO b i w'.heap.size) (w'.alloc ob))
  (hend : ∀ (r : Nat → Value) (b : Nat → Option Nat) (w' : World), I st.length r b w' → (∀ i, i < l.length → cmAt ks i = .box → ∃ g, b i = some g) → Q .normal (putM r b 0 ks l a) w') :
  (Code.region id l.toArray true).wp P Q a w := by
 simp only [boxesOk, Bool.and_eq_true, decide_eq_true_eq] at hK
 obtain ⟨⟨⟨hlen, hdst⟩, hst⟩, hall⟩ := hK
 have hap : dstsApart l = true := by simp only [regOk, Bool.and_eq_true] at hB; exact hB.1.1
 have hal : ∀ i, i < l.length → _ := fun i hi => List.all_eq_true.1 hall i (List.mem_range.2 hi)
 have hsl : ∀ s, s < st.length → _ := fun s hs => List.all_eq_true.1 hst s (List.mem_range.2 hs)
 have hstp : ∀ s, s < st.length → ∃ i, st[s]? = some i ∧ i < l.length ∧ cmAt ks i = .step s ∧ (0 < s → ∃ j, st[s - 1]? = some j ∧ waits l i j = true) := fun s hs => by
  have h := hsl s hs
  have e : st[s]? = some st[s] := List.getElem?_eq_getElem hs
  rw [e] at h
  simp only [Bool.and_eq_true, decide_eq_true_eq, Bool.or_eq_true, beq_iff_eq] at h
  refine ⟨st[s], e, h.1.1, ?_, fun h0 => ?_⟩
  ·have h2 := h.1.2
   cases hk : cmAt ks st[s] with
   | quiet v lim => rw [hk] at h2; cases h2
   | fin t f => rw [hk] at h2; cases h2
   | box => rw [hk] at h2; cases h2
   | step t => rw [hk] at h2; simp at h2; rw [h2]
  ·have h3 := h.2
   rcases h3 with h3 | h3
   ·omega
   ·have e2 : st[s - 1]? = some st[s - 1] := List.getElem?_eq_getElem (by omega)
    rw [e2] at h3
    exact ⟨_, e2, h3⟩
 have hst2 : ∀ i t, i < l.length → cmAt ks i = .step t → st[t]? = some i := fun i t hi hk => by
  have h := hal i hi
  rw [hk] at h
  simpa using h
 refine wp_region_inv hm hB (fun L vs w' => ∃ s r b, RBx ks l l.length st.length I (fun j => L.getD j false) vs s r b w') ?_ ?_ ?_
 ·have hno : ∀ j, ¬ (Array.replicate l.length false).getD j false = true := fun j => by
   simp [Array.getD_eq_getD_getElem?, Array.getElem?_replicate]; split <;> simp
  exact ⟨0, fun _ => undef, fun _ => none, fun i h => absurd h (hno i), fun i t _ _ => ⟨fun h => absurd h (hno i), fun h => absurd h (Nat.not_lt_zero _)⟩, fun i _ _ h => absurd h (hno i), fun i _ _ => ⟨fun h => absurd h (hno i), fun h => by cases h⟩, fun i h => absurd h (hno i), h0, Nat.zero_le _, fun _ j h => absurd h (hno j)⟩
 ·rintro L vs w' ⟨s, r, b, F⟩ i o ho hL hr
  have hi : i < l.length := (List.getElem?_eq_some_iff.1 ho).1
  have ni : L.getD i false = false := by simpa using listed_no hL
  have hset := setfun hL
  have hwt : ∀ j, waits l i j = true → L.getD j false = true := fun j hw => waits_spec hw ho hr
  have hfree : ∀ s, (l.all fun o => o.dst != some s) = true → (putL L vs 0 l a).eval (.tmp s) = a.eval (.tmp s) := fun s hs => putL_other l 0 a (fun p hp t ht e => by
   injection e with e
   subst e
   have := List.all_eq_true.1 hs p hp
   rw [ht] at this
   simp at this)
  have hvals : ∀ j oj k, waits l i j = true → l[j]? = some oj → oj.dst = some k → (putL L vs 0 l a).eval (.tmp k) = (cmAt ks j).out r b j := fun j oj k hw hoj hk => by
   have h1 := hwt j hw
   have hk2 := List.all_eq_true.1 hdst oj (List.mem_of_getElem? hoj)
   rw [hk] at hk2
   rw [putL_at h1 l 0 a oj hap (Nat.zero_le _) (by simpa using hoj) hk (by simpa using hk2)]
   exact F.vals j h1
  have hs := hstep i o ho (putL L vs 0 l a) w' s r b F.inv hfree hvals (fun j hw hj => (F.box j (F.lt j (hwt j hw)) hj).1 (hwt j hw))
  rw [hset]
  obtain ⟨ls, hls⟩ : ∃ ls : Nat → Bool, ls = fun j => L.getD j false := ⟨_, rfl⟩
  have hlsj : ∀ j, L.getD j false = ls j := fun j => by rw [hls]
  simp only [hlsj] at F ni hwt ⊢
  have hlt' : ∀ j, (decide (j = i) || ls j) = true → j < l.length := fun j hj => by
   simp only [Bool.or_eq_true, decide_eq_true_eq] at hj
   rcases hj with rfl | hj
   ·exact hi
   ·exact F.lt j hj
  have hcl : ∀ p j, (decide (j = i) || ls j) = true → waits l j p = true → (decide (p = i) || ls p) = true := fun p j hj hw => by
   simp only [Bool.or_eq_true, decide_eq_true_eq] at hj ⊢
   rcases hj with rfl | hj
   ·exact .inr (hwt p hw)
   ·exact .inr (F.closed p j hj hw)
  have hbxs : ∀ k, cmAt ks i = k → k.isBox = false → ∀ j, j < l.length → cmAt ks j = .box → ((decide (j = i) || ls j) = true ↔ (b j).isSome = true) := fun k h1 h2 j hj hjk => by
   have e : j ≠ i := fun e => by subst e; rw [h1] at hjk; subst hjk; cases h2
   simpa [e] using F.box j hj hjk
  have plain : ∀ (k : Cm) (v : Value), cmAt ks i = k → k.isBox = false → (∀ t, k ≠ .step t) → (∀ t f, k = .fin t f → t < s) → k.out r b i = v → ∃ s r b, RBx ks l l.length st.length I (fun j => decide (j = i) || ls j) (upd vs i v) s r b w' := fun k v hk h1 h2 h3 h4 => by
   refine ⟨s, r, b, hlt', ?_, ?_, hbxs k hk h1, ?_, F.inv, F.le, hcl⟩
   ·intro j t hj hjk
    have e : j ≠ i := fun e => by subst e; rw [hk] at hjk; exact h2 t hjk
    simpa [e] using F.steps j t hj hjk
   ·intro j t f hj hjk
    by_cases e : j = i
    ·subst e; rw [hk] at hjk; exact h3 t f hjk
    ·exact F.fins j t f (by simpa [e] using hj) hjk
   ·intro j hj
    by_cases e : j = i
    ·subst e; rw [upd_at, hk, h4]
    ·rw [upd_ne e]; exact F.vals j (by simpa [e] using hj)
  cases hk : cmAt ks i with
  | fin t f =>
   rw [hk] at hs
   have hts : t < s := by
    have h := hal i hi
    rw [hk] at h
    obtain ⟨j, hjm, hj⟩ := List.any_eq_true.1 h
    simp only [Bool.and_eq_true] at hj
    have hjl := hwt j hj.1
    have h2 := hj.2
    cases hkj : cmAt ks j with
    | quiet v lim => rw [hkj] at h2; cases h2
    | box => rw [hkj] at h2; cases h2
    | step t' => rw [hkj] at h2; simp at h2; subst h2; exact (F.steps j t' (F.lt j hjl) hkj).1 hjl
    | fin t' f' => rw [hkj] at h2; simp at h2; subst h2; exact F.fins j t' f' hjl hkj
   exact oper_wp_ok (hs hts) ⟨_, rfl, plain (.fin t f) _ hk rfl (fun _ e => by cases e) (fun t' f' e => by injection e with e1; omega) rfl⟩
  | box =>
   rw [hk] at hs
   have hb0 : b i = none := by
    cases hbi : b i with
    | none => rfl
    | some g => have := (F.box i hi hk).2 (by rw [hbi]; rfl); rw [this] at ni; cases ni
   obtain ⟨ob, h1, h2⟩ := hs hb0
   refine oper_wp_ok h1 ⟨_, rfl, s, r, updO b i w'.heap.size, hlt', ?_, ?_, ?_, ?_, h2, F.le, hcl⟩
   ·intro j t hj hjk
    have e : j ≠ i := fun e => by subst e; rw [hk] at hjk; cases hjk
    simpa [e] using F.steps j t hj hjk
   ·intro j t f hj hjk
    have e : j ≠ i := fun e => by subst e; rw [hk] at hjk; cases hjk
    exact F.fins j t f (by simpa [e] using hj) hjk
   ·intro j hj hjk
    by_cases e : j = i
    ·subst e; simp [updO]
    ·simpa [e, updO] using F.box j hj hjk
   ·intro j hj
    by_cases e : j = i
    ·subst e; rw [upd_at, hk]; simp [Cm.out, updO]
    ·have hlj : ls j = true := by simpa [e] using hj
     rw [upd_ne e, F.vals j hlj]
     cases hkj : cmAt ks j with
     | quiet v' lim' => rfl
     | step t' => rfl
     | fin t' f' => rfl
     | box => simp [Cm.out, updO, e]
  | quiet v lim =>
   rw [hk] at hs
   have hle : s ≤ lim := by
    have h := hal i hi
    rw [hk] at h
    simp only [Bool.or_eq_true, decide_eq_true_eq] at h
    rcases h with h | h
    ·exact Nat.le_trans F.le h
    ·by_cases hlt : s ≤ lim
     ·exact hlt
     ·exfalso
      have hll : lim < st.length := by have := F.le; omega
      obtain ⟨j, e1, e2, e3, _⟩ := hstp lim hll
      rw [e1] at h
      have hlj := (F.steps j lim e2 e3).2 (by omega)
      rw [F.closed i j hlj h] at ni
      cases ni
   exact oper_wp_ok (hs hle) ⟨v, rfl, plain (.quiet v lim) v hk rfl (fun _ e => by cases e) (fun _ _ e => by cases e) rfl⟩
  | step t =>
   rw [hk] at hs
   have hti := hst2 i t hi hk
   have htl : t < st.length := (List.getElem?_eq_some_iff.1 hti).1
   have hst' : s = t := by
    have h1 : ¬ t < s := fun h => by rw [(F.steps i t hi hk).2 h] at ni; cases ni
    by_cases h0 : t = 0
    ·omega
    ·obtain ⟨i', e1, e2, e3, e4⟩ := hstp t htl
     rw [hti] at e1
     injection e1 with e1
     subst e1
     obtain ⟨j, q1, q2⟩ := e4 (by omega)
     obtain ⟨j', r1, r2, r3, _⟩ := hstp (t - 1) (by omega)
     rw [q1] at r1
     injection r1 with r1
     subst r1
     have := (F.steps j (t - 1) r2 r3).1 (hwt j q2)
     omega
   subst hst'
   refine Oper.wp_mono ?_ (hs rfl)
   rintro a'' w'' ⟨v, h1, h2⟩
   refine ⟨v, h1, s + 1, updR r s v, b, hlt', ?_, ?_, hbxs _ hk rfl, ?_, h2, htl, hcl⟩
   ·intro j t' hj hjk
    by_cases e : j = i
    ·subst e
     rw [hk] at hjk
     injection hjk with hjk
     subst hjk
     simp
    ·have h3 := F.steps j t' hj hjk
     have hne : t' ≠ s := fun e' => by
      subst e'
      have := hst2 j t' hj hjk
      rw [hti] at this
      injection this with this
      exact e this.symm
     simp only [e, decide_false, Bool.false_or]
     rw [h3]; omega
   ·intro j t' f hj hjk
    have e : j ≠ i := fun e => by subst e; rw [hk] at hjk; cases hjk
    have := F.fins j t' f (by simpa [e] using hj) hjk
    omega
   ·intro j hj
    by_cases e : j = i
    ·subst e; rw [upd_at, hk]; exact (updR_at r s v).symm
    ·have hlj : ls j = true := by simpa [e] using hj
     rw [upd_ne e, F.vals j hlj]
     cases hkj : cmAt ks j with
     | quiet v' lim' => rfl
     | box => rfl
     | fin t' f' =>
      have := F.fins j t' f' hlj hkj
      exact congrArg f' (updR_ne (by omega)).symm
     | step t' =>
      have := (F.steps j t' (F.lt j hlj) hkj).1 hlj
      exact (updR_ne (by omega)).symm
 ·rintro L vs w' ⟨s, r, b, F⟩ hlst
  have hs : s = st.length := by
   by_cases h : s < st.length
   ·obtain ⟨i, e1, e2, e3, _⟩ := hstp s h
    have := (F.steps i s e2 e3).1 (hlst i e2)
    omega
   ·have := F.le; omega
  subst hs
  rw [putM_all L vs r b l 0 ks a hlen (fun i hi => by rw [Nat.zero_add]; exact hlst i hi) (fun i hi => by rw [Nat.zero_add]; exact F.vals i (hlst i hi))]
  exact hend r b w' F.inv (fun i hi hk => Option.isSome_iff_exists.1 ((F.box i hi hk).1 (hlst i hi)))
end
end Go.Proofs.YtnpaejknoipicagGreat
