/-
  'switchbacklaw.CountTells' returns true, whatever it is handed.
-/
import Derived.Test.YtaabikjdockclaaCountInts
namespace Go.Proofs.Ytaabikjdockclaa
open Go.RowKit

/-- what one more number does to the loop's relation -/
theorem own_more {B : Nat} {w wr w1 : World} {u v' : Value} {o : Obj} {x : Int} {out : List Int}
    (hB : B ≤ wr.heap.size) (hown : wr.ownsRow B 3 1 u out.length (out.map (Value.int .i64))) (hnx : Below B w wr)
    (hown' : w1.ownsRow B 3 1 v' (out.length + 1) (out.map (Value.int .i64) ++ [.int .i64 x])) (hgrow : (wr.alloc o).grownBy w1 u.ownBlock) :
    w1.ownsRow B 3 1 v' (out ++ [x]).length ((out ++ [x]).map (Value.int .i64)) ∧ Below B w w1 :=
  ⟨by simpa using hown', (hnx.alloc (by omega) o).grown hgrow (by simp; omega) (fun j hj => (hown.lt j hj).1)⟩

/-- what the law's own loop has behind its rounds: the numbers so far; the errno; the last one -/
def Cn.sp (s : List Int × Int × Int) (x : Int) : List Int × Int × Int :=
  if s.2.1 == 0 then (s.1 ++ [Cn.uwN s.2.2 x], Cn.uwE s.2.2 x, Cn.uwN s.2.2 x) else s
theorem Cn.sp_yes {s : List Int × Int × Int} (h : (s.2.1 == 0) = true) (x : Int) : Cn.sp s x = (s.1 ++ [Cn.uwN s.2.2 x], Cn.uwE s.2.2 x, Cn.uwN s.2.2 x) := by rw [Cn.sp, h]; rfl
theorem Cn.sp_no {s : List Int × Int × Int} (h : (s.2.1 == 0) = false) (x : Int) : Cn.sp s x = s := by rw [Cn.sp, h]; rfl
def Cn.st (first : Int) (l : List Int) : List Int × Int × Int := l.foldl Cn.sp ([], 0, first)
theorem Cn.st_snoc (first : Int) (l : List Int) (x : Int) : Cn.st first (l ++ [x]) = Cn.sp (Cn.st first l) x := by
  rw [Cn.st, List.foldl_append]; rfl
theorem Cn.st_stays (l : List Int) : ∀ s : List Int × Int × Int, (s.2.1 == 0) = false → l.foldl Cn.sp s = s := by
  induction l with
  | nil => intro s _; rfl
  | cons x r ih => intro s h; rw [List.foldl_cons, Cn.sp_no h]; exact ih s h
theorem Cn.st_goes (l : List Int) : ∀ (first : Int) (p : List Int),
    (∀ o, Cn.goes first l = some o → l.foldl Cn.sp (p, (0 : Int), first) = (p ++ o, 0, Cn.lastOf first o)) ∧
    (Cn.goes first l = none → (l.foldl Cn.sp (p, (0 : Int), first)).2.1 = 3) := by
  induction l with
  | nil => intro first p; simp [Cn.goes, Cn.lastOf]
  | cons x r ih =>
    intro first p
    rw [List.foldl_cons, Cn.sp_yes (s := (p, (0 : Int), first)) rfl]
    simp only [Cn.goes]
    cases hok : Cn.okB first x
    · simp only [(Cn.uw_no hok).1, (Cn.uw_no hok).2]
      rw [Cn.st_stays r _ rfl]
      simp
    · simp only [(Cn.uw_ok hok).1, (Cn.uw_ok hok).2]
      obtain ⟨h1, h2⟩ := ih (Cn.raw first x) (p ++ [Cn.raw first x])
      constructor
      · intro o ho
        cases hg : Cn.goes (Cn.raw first x) r with
        | none => simp [hg] at ho
        | some q =>
          simp [hg] at ho
          rw [h1 q hg, ← ho]
          simp [Cn.lastOf]
      · intro hn
        cases hg : Cn.goes (Cn.raw first x) r with
        | none => exact h2 hg
        | some q => simp [hg] at hn
theorem Cn.st_all (first : Int) (l : List Int) : (Cn.st first l).2.1 = Cn.allE first l ∧ (Cn.allE first l = 0 → (Cn.st first l).1 = Cn.allL first l) ∧ ((Cn.allE first l == 0) = false → Cn.allL first l = []) := by
  obtain ⟨h1, h2⟩ := Cn.st_goes l first []
  cases hg : Cn.goes first l with
  | none =>
    have := h2 hg
    obtain ⟨hE, hL⟩ := Cn.allE_none hg
    refine ⟨by rw [hE]; exact this, fun h => by rw [hE] at h; exact absurd h (by decide), fun _ => hL⟩
  | some o =>
    have := h1 o hg
    obtain ⟨hE, hL⟩ := Cn.allE_some hg
    have hst : Cn.st first l = (o, 0, Cn.lastOf first o) := by simpa [Cn.st] using this
    refine ⟨by rw [hst, hE], fun _ => by rw [hst, hL], fun h => by rw [hE] at h; exact absurd h (by decide)⟩
theorem Cn.st_len (l : List Int) : ∀ s : List Int × Int × Int, (l.foldl Cn.sp s).1.length ≤ s.1.length + l.length := by
  induction l with
  | nil => intro s; simp
  | cons x r ih =>
    intro s
    rw [List.foldl_cons]
    have := ih (Cn.sp s x)
    cases h : (s.2.1 == 0)
    · rw [Cn.sp_no h] at this ⊢
      simp; omega
    · rw [Cn.sp_yes h] at this ⊢
      simp at this ⊢; omega

theorem Cn.st_at (first : Int) (l : List Int) (k : Nat) (hk : k < l.length) : Cn.st first (l.take (k + 1)) = Cn.sp (Cn.st first (l.take k)) (l[k]?.getD 0) := by
  rw [Cn.take_snoc l k hk, Cn.st_snoc]
theorem Cn.st_over (first : Int) (l : List Int) (k : Nat) (h : ((Cn.st first (l.take k)).2.1 == 0) = false) : Cn.st first l = Cn.st first (l.take k) := by
  conv => lhs; rw [← List.take_append_drop k l]
  rw [Cn.st, List.foldl_append]
  exact Cn.st_stays _ _ h

theorem Cn.wr_facts (n : Int) : (Cn.isNB n = true ∧ Cn.wrE n = 0 ∧ Cn.wrN n = n % 65536 ∧ 65536 ≤ n ∧ n ≤ 1000000000) ∨ (Cn.isNB n = false ∧ Cn.wrE n = 3 ∧ Cn.wrN n = 0) := by
  cases h : Cn.isNB n
  · exact .inr ⟨rfl, by simp [Cn.wrE, h], by simp [Cn.wrN, h]⟩
  · exact .inl ⟨rfl, by simp [Cn.wrE, h], by simp [Cn.wrN, h], (Cn.isNB_iff.1 h).1, (Cn.isNB_iff.1 h).2⟩

theorem same_or {wr w3 : World} {v : Value} {out l : List Int} {e : Int} (ha : Sl wr v out.length 1 (out.map (Value.int .i64))) (hb3 : Below wr.heap.size wr w3) (h : (e = 0 ∧ out = l) ∨ ((e == 0) = false ∧ l = [])) :
    (e = 0 ∧ Sl w3 v l.length 1 (l.map (Value.int .i64))) ∨ ((e == 0) = false ∧ l = []) := by
  rcases h with ⟨h0, rfl⟩ | h
  · exact .inl ⟨h0, ha.below hb3⟩
  · exact .inr h

set_option maxHeartbeats 1600000 in
set_option maxRecDepth 1000000 in
theorem countTells_any (n last seq : Int) (v : Value) (zs : List Int) (w : World) (hreach : zs.length * 8 ≤ 140737488351232) (hv : Sl w v zs.length 1 (zs.map (Value.int .i64))) :
    Calls Try.prog 6 #[.int .i64 n, .int .i64 last, .int .i64 seq, v] w fun e w' => e = .returned (.bool true) ∧ Below w.heap.size w w' := by
  obtain ⟨i0, hi, hz0, hz1, hz2⟩ := info_parts Try.infoInt
  obtain ⟨ao, c, rfl, hc⟩ := hv.ints
  have HC : Hid (∀ j, j < zs.length → ∃ b off, ao = some ⟨b, off, none⟩ ∧ b < w.heap.size ∧ w.cell? ⟨b, off + j, none⟩ = some (.int .i64 (zs[j]?.getD 0))) := hc
  clear hc
  rcases Cn.wr_facts n with ⟨hb, hE, hN, hn1, hn2⟩ | ⟨hb, hE, hN⟩
  all_goals
    go_enter Try.func6, Try.ntmps6
    go_wp2_with (first
      | (go_at_call 16; refine (wrap_any _ _).mono ?_; rintro e w' ⟨rfl, rfl⟩)
      | (go_at_call 17; refine (unwrap_any _ _ _).mono ?_; rintro e w' ⟨rfl, rfl⟩)
      | (go_at_call 18; refine (all_any _ _ zs _ hreach hv).mono ?_; rintro e w1 ⟨u, rfl, hown, hbel⟩)
      | (go_at_call 19; refine (refIsN_any _ _).mono ?_; rintro e w' ⟨rfl, rfl⟩)
      | (go_at_call 20; refine (unwrapOf_any _ _ _).mono ?_; rintro e w' ⟨rfl, rfl⟩))
    have hsz1 := hbel.size
    go_loopw [19, 20, 21, 22] (fun va ve vt i wr => ∃ (k : Nat) (out : List Int) (er at' : Int), k ≤ zs.length ∧ i = .int .i64 k ∧ ve = .int .i64 er ∧ vt = .int .i64 at' ∧ Cn.st last (zs.take k) = (out, er, at') ∧ wr.ownsRow w1.heap.size 3 1 va out.length (out.map (Value.int .i64)) ∧ Below w1.heap.size w1 wr)
      (fun _ _ _ i _ => zs.length - (intOf i).toNat)
    case atStart => exact ⟨0, [], 0, last, Nat.zero_le _, rfl, rfl, rfl, rfl, World.ownsRow_nil _ _ _ _, Below.refl _ _⟩
    case round =>
      obtain ⟨k, out, er, at', hk, rfl, rfl, rfl, hst, hownr, hnx⟩ := hrel
      have HST : Hid (Cn.st last (zs.take k) = (out, er, at')) := hst
      have hlen : out.length ≤ k := by have := Cn.st_len (zs.take k) ([], 0, last); rw [show List.foldl Cn.sp ([], 0, last) (zs.take k) = (out, er, at') from hst] at this; simp at this; omega
      have hszr := hnx.size
      clear hst
      by_cases hgo : k < zs.length ∧ (er == 0) = true
      · obtain ⟨hlt, her⟩ := hgo
        obtain ⟨b, off, hao, hbw, hcell⟩ := HC.out k hlt
        subst hao
        have hcx : wr.cell? ⟨b, off + k, none⟩ = some (.int .i64 (zs[k]?.getD 0)) := (hnx.cell (p := ⟨b, off + k, none⟩) (by show b < w1.heap.size; omega)).trans ((hbel.cell (p := ⟨b, off + k, none⟩) hbw).trans hcell)
        obtain ⟨x, hx⟩ : ∃ x, x = zs[k]?.getD 0 := ⟨_, rfl⟩
        rw [← hx] at hcx
        have HX : Hid (x = zs[k]?.getD 0) := hx
        have hlt' : (k : Int) < (zs.length : Int) := by omega
        clear hx hcell
        go_wp2_with (first
          | (go_at_call 20; refine (unwrapOf_any _ _ _).mono ?_; rintro e w' ⟨rfl, rfl⟩)
          | (at_builtin; refine wpList_append_own _ rfl _ _ 34 rfl w1.heap.size 3 i0 (.int .i64 0) 1 8 Try.underlying34 hi hz0 hz1 hz2 rfl (by decide) u19 _ _ rfl (hownr.alloc _) ⟨wr.heap.size, 0, none⟩ 1 1 [.int .i64 (Cn.uwN at' x)] rfl rfl (news1 rfl) one1 (by unfold maxLen; omega) (by omega) (by simp; omega) ?_; intro v' w2 hown' hgrow _))
        have R := own_more (by omega) hownr hnx hown' hgrow
        have hst2 : Cn.st last (zs.take (k + 1)) = (out ++ [Cn.uwN at' x], Cn.uwE at' x, Cn.uwN at' x) := by
          rw [Cn.st_at last zs k hlt, ← HX.out, HST.out, Cn.sp_yes (by exact her)]
        exact ⟨⟨k + 1, out ++ [Cn.uwN at' x], _, _, by omega, by go_num, rfl, rfl, hst2, R.1, R.2⟩, by simp [intOf]; omega⟩
      · have hfin : Cn.st last zs = (out, er, at') := by
          by_cases hlt : k < zs.length
          · have her : (er == 0) = false := by cases h : (er == 0) <;> simp_all
            rw [Cn.st_over last zs k (by rw [HST.out]; exact her)]
            exact HST.out
          · have := HST.out
            rw [List.take_of_length_le (by omega)] at this
            exact this
        obtain ⟨hA1, hA2, hA3⟩ := Cn.st_all last zs
        rw [hfin] at hA1 hA2
        simp only at hA1 hA2
        subst hA1
        have HAL : Hid ((Cn.allE last zs = 0 ∧ out = Cn.allL last zs) ∨ ((Cn.allE last zs == 0) = false ∧ Cn.allL last zs = [])) := by
          cases h : (Cn.allE last zs == 0)
          · exact .inr ⟨rfl, hA3 h⟩
          · exact .inl ⟨by simpa using h, hA2 (by simpa using h)⟩
        have hllen : (Cn.allL last zs).length * 8 ≤ 140737488351232 := by
          rcases HAL.out with ⟨_, h⟩ | ⟨_, h⟩
          · rw [← h]; omega
          · rw [h]; simp
        clear hA2 hA3 hfin HST HC
        have hu : Sl wr u (Cn.allL last zs).length 1 ((Cn.allL last zs).map (Value.int .i64)) := (Sl.of_owns hown).below hnx
        have ha : Sl wr u19 out.length 1 (out.map (Value.int .i64)) := Sl.of_owns hownr
        have hbr : Below w.heap.size w wr := hbel.trans (hnx.mono hsz1)
        have hsz2 := hbr.size
        clear hown hownr hbel hnx hv
        by_cases hlt : k < zs.length
        · have hne : (Cn.allE last zs == 0) = false := by cases h : (Cn.allE last zs == 0) <;> simp_all
          clear hgo
          go_wp2_with (first
            | (go_at_call 21; refine (countBegun_any _).mono ?_; rintro e w3 ⟨rfl, hb3⟩)
            | (go_at_call 22; refine (intsAre_any u u19 (Cn.allL last zs) _ _ hllen (hu.below hb3) (same_or ha hb3 HAL.out)).mono ?_; rintro e w4 ⟨rfl, hb4⟩))
          go_ret
          exact ⟨rfl, (hbr.trans (hb3.mono hsz2)).trans (hb4.mono (Nat.le_trans hsz2 hb3.size))⟩
        · clear hgo
          go_wp2_with (first
            | (go_at_call 21; refine (countBegun_any _).mono ?_; rintro e w3 ⟨rfl, hb3⟩)
            | (go_at_call 22; refine (intsAre_any u u19 (Cn.allL last zs) _ _ hllen (hu.below hb3) (same_or ha hb3 HAL.out)).mono ?_; rintro e w4 ⟨rfl, hb4⟩))
          go_ret
          exact ⟨rfl, (hbr.trans (hb3.mono hsz2)).trans (hb4.mono (Nat.le_trans hsz2 hb3.size))⟩

end Go.Proofs.Ytaabikjdockclaa
