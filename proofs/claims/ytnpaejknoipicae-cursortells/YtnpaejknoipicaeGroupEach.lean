/-
  Contract: group.each.
-/
import Derived.Test.YtnpaejknoipicaeGroupTake
namespace Go.Proofs.Ytnpaejknoipicae
open Go.RowKit

def eachE (l : List Fr) : Int := goN (fun k => (frAt l k).chk) l.length 0

set_option maxHeartbeats 4000000 in
set_option maxRecDepth 100000 in
theorem groupEach_any (base M : Nat) (v : Value) (l : List Fr) (w : World) (hM : GMk base M w (.slice none 0 0) (.slice none 0 0) [] []) (hbM : base ≤ M) (hv : FrsIn (fun g => g < base) w v l) (hl : l.length ≤ 100) :
    Calls Try.prog 69 #[v, .func (.func 70) #[.pointer (some ⟨M, 0, none⟩)] #[]] w fun e w' => e = .returned (.int .i64 (eachE l)) ∧ (eachE l = 0 → GMake base M w' (upG l l.length).2 (upG l l.length).1) ∧ Below base w w' := by
  have HV : Hid (FrsIn (fun g => g < base) w v l) := hv
  obtain ⟨ao, c, hva, h1, h2, hc⟩ := hv
  have HC : Hid (∀ k, k < l.length → ∃ b off, ao = some ⟨b, off, none⟩ ∧ b < w.heap.size ∧ b < base ∧ At3In (fun g => g < base) w b (off + k * 3) (l[k]?.getD Fr.zero)) := hc
  obtain ⟨n, hn⟩ : ∃ n, n = l.length := ⟨_, rfl⟩
  have HN : Hid (n = l.length) := hn
  have hbw : base ≤ w.heap.size := by have := hM.1.lt; omega
  obtain ⟨E, hE⟩ : ∃ E, E = eachE l := ⟨_, rfl⟩
  have HE : Hid (E = goN (fun k => (frAt l k).chk) n 0) := by show _ = _; rw [hE, hn]; rfl
  have HMK : Hid (GMk base M w (.slice none 0 0) (.slice none 0 0) [] []) := hM
  have eg : Enters Try.prog 70 := enters_of Try.func70 (by kernel_rfl) rfl
  have eg' : ∀ (args : Array Value) (w : World), (callFunc 70 args).run Try.prog w = .ok (.enter 70 args) w := eg
  rw [← hn] at hva h1 hl
  rw [← hE, ← hn]
  clear hc hn hE hM eg
  subst hva
  go_enter Try.func69, Try.ntmps69
  go_wp2_with fail
  go_loopw [10] (fun i wr => ∃ k : Nat, k ≤ n ∧ i = .int .i64 k ∧ Hid (∀ j, j < k → (frAt l j).chk = 0) ∧ Hid (GMake base M wr (upG l k).2 (upG l k).1) ∧ Hid (Below base w wr))
    (fun i _ => n - (intOf i).toNat)
  case atStart => exact ⟨0, Nat.zero_le _, rfl, (show ∀ j, j < 0 → _ from fun j hj => absurd hj (Nat.not_lt_zero _)), ⟨_, _, HMK.out⟩, Below.refl _ _⟩
  case round =>
    obtain ⟨k, hk, rfl, HK, MK, HB⟩ := hrel
    by_cases hlt : k < n
    · obtain ⟨b, off, hao, hb, hbb, pv, c0, c1, c2, hp⟩ := HC.out k (by rw [← HN.out]; exact hlt)
      have d0 := (HB.out.cell (p := ⟨b, off + k * 3, none⟩) hbb).trans c0
      have d1 := (HB.out.cell (p := ⟨b, off + k * 3 + 1, none⟩) hbb).trans c1
      have d2 := (HB.out.cell (p := ⟨b, off + k * 3 + 2, none⟩) hbb).trans c2
      have hpr : StrsIn (fun g => g < base) wr pv (l[k]?.getD Fr.zero).parts := hp.to ⟨HB.out.size, fun g _ h => HB.out.block g h⟩ (fun _ _ h => h)
      obtain ⟨f, hf⟩ : ∃ f, f = frAt l k := ⟨_, rfl⟩
      rw [show (l[k]?.getD Fr.zero) = f from hf.symm] at d0 d1 hpr
      obtain ⟨pa, pc, ep⟩ := hpr.1.len
      obtain ⟨fv, cv, mk⟩ := MK.out
      have hlens := upG_len l k (by rw [← HN.out]; omega)
      have HUP : Hid (upG l (k + 1) = stepG (upG l k) f) := by show _ = _; rw [hf]; exact upG_succ l k (by rw [← HN.out]; exact hlt)
      have HFC : Hid (frAt l k = f) := hf.symm
      obtain ⟨cl, o, hco⟩ : ∃ cl o, upG l k = (cl, o) := ⟨_, _, rfl⟩
      rw [hco] at mk hlens HUP
      simp only at mk hlens
      have HM1 : Hid (GMk base M wr fv cv o cl) := mk
      have HTK : Hid (f.chk = 0 → ∀ w' : World, GMk base M w' fv cv o cl → StrsIn (fun g => g < base) w' pv f.parts → Calls Try.prog 70 #[.pointer (some ⟨M, 0, none⟩), .agg #[.int .i64 f.time, .bool f.key, pv]] w' fun e w'' => e = .returned (.tuple #[]) ∧ GMake base M w'' (growG o f) (if f.key && decide (0 < o.length) then cl ++ [o] else cl) ∧ Below base w' w'') := fun h w' h1 h2 => groupTake_any base M fv cv o cl f pv w' h1 hbM hlens.1 (by have := hlens.2; omega) h2 h
      obtain ⟨ck, hck⟩ : ∃ ck, ck = f.chk := ⟨_, rfl⟩
      have HCF : Hid (∀ w' : World, Strs w' pv f.parts → Calls Try.prog 44 #[.agg #[.int .i64 f.time, .bool f.key, pv]] w' fun e w'' => e = .returned (.int .i64 ck) ∧ Below w'.heap.size w' w'') := fun w' hs => by rw [hck]; exact frameCheck_any f.time f.key _ f.parts w' hs hpr.2.1
      have HP : Hid (StrsIn (fun g => g < base) wr pv f.parts) := hpr
      have HCK : Hid (ck = f.chk) := hck
      rw [← hck] at HTK
      obtain ⟨R, hR⟩ : ∃ R, R = growG o f := ⟨_, rfl⟩
      obtain ⟨C, hC⟩ : ∃ C, C = (if f.key && decide (0 < o.length) then cl ++ [o] else cl) := ⟨_, rfl⟩
      have HUP2 : Hid (upG l (k + 1) = (C, R)) := by show _ = _; rw [HUP.out, hR, hC]; rfl
      rw [← hR, ← hC] at HTK
      obtain ⟨pn, hpn⟩ : ∃ pn, pn = f.parts.length := ⟨_, rfl⟩
      rw [← hpn] at ep
      subst ep
      subst hao
      have hlti : (k : Int) < (n : Int) := by omega
      obtain ⟨ft, fk, fp⟩ := f
      simp only at d0 d1 HP HCF HTK
      clear c0 c1 c2 hp hpr hf hck hpn hco mk hlens hR hC MK HUP
      go_wp2_with fail
      refine (HCF.out _ (HP.out.1.below ((Below.refl _ wr).alloc (Nat.le_refl _) _))).mono ?_
      rintro e w1 ⟨rfl, hb1⟩
      have B1 : Hid (Below wr.heap.size wr w1) := ((Below.refl _ wr).alloc (Nat.le_refl _) _).trans (hb1.mono (by simp))
      have BB1 : Hid (Below base w w1) := HB.out.trans (B1.out.mono (by have := HB.out.size; omega))
      obtain ⟨y0, y1, y2⟩ := ((Blk.new wr #[.int .i64 ft, .bool fk, .slice pa pn pc] 39).below hb1 (by simp)).three
      clear hb1 d0 d1 d2
      by_cases hc0 : ck = 0
      · have MK1 : Hid (GMk base M w1 fv cv o cl) := HM1.out.below B1.out
        have SP1 : Hid (StrsIn (fun g => g < base) w1 (.slice pa pn pc) fp) := HP.out.below B1.out
        have HCK0 : Hid ((frAt l k).chk = 0) := by show _ = _; rw [HFC.out, ← HCK.out, hc0]
        have HT2 : Hid (∀ w' : World, GMk base M w' fv cv o cl → StrsIn (fun g => g < base) w' (.slice pa pn pc) fp → Calls Try.prog 70 #[.pointer (some ⟨M, 0, none⟩), .agg #[.int .i64 ft, .bool fk, .slice pa pn pc]] w' fun e w'' => e = .returned (.tuple #[]) ∧ GMake base M w'' R C ∧ Below base w' w'') := HTK.out hc0
        subst hc0
        clear HTK HCK
        go_wp2_with (go_at_fn 70; refine (HT2.out _ MK1.out SP1.out).mono ?_; rintro e w2 ⟨rfl, mk2, hb2⟩)
        have MK3 : Hid (GMake base M w2 (upG l (k + 1)).2 (upG l (k + 1)).1) := by show GMake _ _ _ _ _; rw [HUP2.out]; exact mk2
        have BB2 : Hid (Below base w w2) := BB1.out.trans hb2
        clear mk2 hb2 y0 y1 y2
        go_roundw
        case rel => exact ⟨k + 1, by omega, by go_num, (show ∀ j, j < k + 1 → _ from fun j hj => by
          by_cases e : j = k
          · subst e; exact HCK0.out
          · exact HK.out j (by omega)), MK3, BB2⟩
        case measure => simp [intOf]; omega
      · have HEE : Hid (E = ck) := by
          show _ = _
          rw [HE.out, goN_hit n 0 k (Nat.zero_le _) (by omega) (fun j _ hj => HK.out j hj) (by rw [HFC.out, ← HCK.out]; exact hc0), HFC.out, ← HCK.out]
        go_wp2
        go_ret
        exact ⟨by rw [HEE.out]; rfl, fun h => absurd (HEE.out.symm.trans h) hc0, BB1.out⟩
    · have hkl : k = n := by omega
      subst hkl
      have HEE : Hid (E = 0) := by show _ = _; rw [HE.out]; exact goN_all _ _ (fun j _ hj => HK.out j (by omega))
      go_wp2
      go_ret
      exact ⟨by rw [HEE.out]; rfl, fun _ => MK.out, HB.out⟩

end Go.Proofs.Ytnpaejknoipicae
