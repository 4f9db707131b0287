/- The reference's Of and Make; the errors of Make and Quo. -/
import Derived.Test.YtbpcekibdnpkhaaGreatDoorFlr
import Derived.Test.YtbpcekibdnpkhaaGreatDoorDyn
import Derived.Test.YtbpcekibdnpkhaaGreatDoorLawo
import Derived.Test.YtbpcekibdnpkhaaGreatDoorRefo
namespace Go.Proofs.YtbpcekibdnpkhaaGreatDoor
open Go.RowKit

theorem same_zz0 {w : World} {A B : Option Addr} {c k : Nat} : Calls Tryz.prog 51 #[dv false A 0 c 0, dv false B 0 k 0] w fun e w' => e = .returned (.bool true) ∧ Ext w w' := by
  have := same_true (w := w) (d := DV.zero) (A := A) (B := B) (ca := c) (cb := k) (by rw [zero_len]; exact fun h => absurd h (Nat.lt_irrefl 0)) (by rw [zero_len]; exact fun h => absurd h (Nat.lt_irrefl 0)) (by rw [zero_len]; decide)
  rw [zero_len] at this
  exact this
theorem rnumber_two (neg : Bool) (g lo hi m : Nat) (w : World) (hg : g < w.heap.size) (h0 : w.cell? ⟨g, 0, none⟩ = some (U4 lo)) (h1 : w.cell? ⟨g, 1, none⟩ = some (U4 hi)) (hlo : lo < 4294967296) (hhi : hi < 4294967296) (hm : lo + hi * 4294967296 = m) :
    Calls Tryz.prog 99 #[.bool neg, .slice (some ⟨g, 0, none⟩) 2 2, I 0] w (DyRes (mkD neg m 0) w) := by
  have h := rnumber_any neg (some ⟨g, 0, none⟩) 2 2 0 m (fun i => if i = 0 then lo else hi) w (fun _ => ⟨g, 0, rfl, hg, fun i hi2 => by
      have : i = 0 ∨ i = 1 := by omega
      rcases this with rfl | rfl
      · exact h0
      · exact h1⟩) ⟨Nat.le_refl _, by unfold maxLen; omega, fun e => by cases e⟩ (fun i hi2 => by
      have : i = 0 ∨ i = 1 := by omega
      rcases this with rfl | rfl
      · exact hlo
      · exact hhi) (by
      rw [← hm]
      show 0 + _ * pB 0 + _ * pB 1 = _
      have e1 : pB 1 = 4294967296 := by unfold pB; rw [Nat.pow_one]
      rw [pB_zero, e1]
      simp) (by omega) (by omega)
  exact h

set_option maxRecDepth 100000 in
set_option maxHeartbeats 1000000 in
theorem rof_any (n : Int) (w : World) (h1 : -9223372036854775808 ≤ n) (h2 : n ≤ 9223372036854775807) : Calls Tryz.prog 86 #[I n] w (DyRes (ofI n 0) w) := by
  have SB := Lib.hid (Bx.new w (.bool false) (.slice none 0 0) (I 0) 24)
  obtain ⟨m, hm⟩ : ∃ m, n.natAbs = m := ⟨_, rfl⟩
  obtain ⟨lo, hlo⟩ : ∃ x, m % 4294967296 = x := ⟨_, rfl⟩
  obtain ⟨hi, hhi⟩ : ∃ x, m / 4294967296 = x := ⟨_, rfl⟩
  have el : (m : Int) % 4294967296 = (lo : Int) := by omega
  have eh : (m : Int) / 4294967296 = (hi : Int) := by omega
  have hlb : lo < 4294967296 := by omega
  have hhb : hi < 4294967296 := by omega
  have eh2 : (hi : Int) % 4294967296 = (hi : Int) := by omega
  have hsum : Hid (lo + hi * 4294967296 = m) := by show _ = _; omega
  have HLO := Lib.hid hlb; have HHI := Lib.hid hhb
  by_cases hn : n < 0
  · have HD : Hid (mkD true m 0 = ofI n 0) := by show _ = _; unfold ofI; rw [hm, decide_eq_true hn]
    have e1 : -(n + 1) % 18446744073709551616 = -(n + 1) := by omega
    have e2 : -(n + 1) + 1 = (m : Int) := by omega
    obtain ⟨d', hd'⟩ : ∃ d', ofI n 0 = d' := ⟨_, rfl⟩
    rw [hd'] at HD ⊢
    clear hd' hm hlo hhi
    go_enter Tryz.func86, Tryz.ntmps86
    go_wp2_with (go_at_call 99; (with_reducible refine (rnumber_two true _ lo hi m _ (by go_simp) (by go_simp) (by go_simp) HLO.out HHI.out hsum.out).mono ?_); rw [HD.out]; rintro e w2 ⟨A2, c2, rfl, hon, hx⟩; obtain ⟨⟨r0, r1, r2⟩, rz⟩ := SB.out.ext ((Ext.alloc _ _).trans hx); have HO := Lib.hid hon; have HX := Lib.hid (((Ext.alloc _ _).trans (Ext.alloc _ _)).trans hx); clear hon hx)
    exact bodyPost_ret (v := dv d'.neg A2 (len d'.m) c2 d'.den) (by simp [results, Tryz.results86, go_sem, r0, r1, r2]) rfl (DyRes.end3 rfl HO.out HX.out (by simp; omega) (Nat.le_refl _) (by simp; omega))
  · have HD : Hid (mkD false m 0 = ofI n 0) := by show _ = _; unfold ofI; rw [hm, decide_eq_false hn]
    have e1 : n % 18446744073709551616 = (m : Int) := by omega
    have e2 : n = (m : Int) := by omega
    obtain ⟨d', hd'⟩ : ∃ d', ofI n 0 = d' := ⟨_, rfl⟩
    rw [hd'] at HD ⊢
    subst e2
    have e3 : ¬ (m : Int) < 0 := by omega
    clear hd' hm hlo hhi hn
    go_enter Tryz.func86, Tryz.ntmps86
    go_wp2_with (go_at_call 99; (with_reducible refine (rnumber_two false _ lo hi m _ (by go_simp) (by go_simp) (by go_simp) HLO.out HHI.out hsum.out).mono ?_); rw [HD.out]; rintro e w2 ⟨A2, c2, rfl, hon, hx⟩; obtain ⟨⟨r0, r1, r2⟩, rz⟩ := SB.out.ext ((Ext.alloc _ _).trans hx); have HO := Lib.hid hon; have HX := Lib.hid (((Ext.alloc _ _).trans (Ext.alloc _ _)).trans hx); clear hon hx)
    exact bodyPost_ret (v := dv d'.neg A2 (len d'.m) c2 d'.den) (by simp [results, Tryz.results86, go_sem, r0, r1, r2]) rfl (DyRes.end3 rfl HO.out HX.out (by simp; omega) (Nat.le_refl _) (by simp; omega))

theorem make_D (n : Int) (k : Nat) (hk : k ≤ 65536) : mkD (ofI n 0).neg (ofI n 0).m k = ofI n k := by
  by_cases h : n.natAbs = 0
  · have : n = 0 := by omega
    subst this
    have h0 : ofI 0 0 = DV.zero := by unfold ofI; rw [mkD_small (by decide)]; exact nrm_zero _ _
    rw [h0]
    unfold ofI
    rw [mkD_small hk, mkD_small hk]
    exact (nrm_zero _ _).trans (nrm_zero _ _).symm
  · have h0 : ofI n 0 = ⟨decide (n < 0), n.natAbs, 0⟩ := by unfold ofI; rw [mkD_small (by decide), nrm0 h]
    rw [h0]; rfl

set_option maxRecDepth 100000 in
set_option maxHeartbeats 1000000 in
theorem rmake_any (n : Int) (k : Nat) (w : World) (h1 : -9223372036854775808 ≤ n) (h2 : n ≤ 9223372036854775807) (hk : k ≤ 65536) : Calls Tryz.prog 66 #[I n, I k] w (DyNum (ofI n k) w) := by
  have SB := Lib.hid (Bx.new w (.bool false) (.slice none 0 0) (I 0) 24)
  have HM := Lib.hid (make_D n k hk)
  have lo := Nat.le_trans (len_mono (mkD_m_le (decide (n < 0)) n.natAbs 0)) (len_abs h1 h2)
  obtain ⟨d', hd'⟩ : ∃ d', ofI n k = d' := ⟨_, rfl⟩
  rw [hd'] at HM ⊢
  obtain ⟨o, ho⟩ : ∃ o, ofI n 0 = o := ⟨_, rfl⟩
  have lo2 : len o.m ≤ 2 := by rw [← ho]; exact lo
  rw [ho] at HM
  have HO := Lib.hid ho
  clear hd' ho lo
  go_enter Tryz.func66, Tryz.ntmps66
  go_wp2_with (first
    | (go_at_call 86; (with_reducible refine (rof_any n _ h1 h2).mono ?_); rw [HO.out]; rintro e w2 ⟨A2, c2, rfl, hon, hx⟩; have HON := Lib.hid hon; have HX := Lib.hid ((Ext.alloc _ _).trans hx); have SB2 := Lib.hid (SB.out.ext hx); have hs2 := hx.size; clear hon hx)
    | (go_at_call 99; (with_reducible refine (rnumber_of o.neg A2 c2 k o.m _ (HON.out.rd.ext (Ext.alloc _ _)) HON.out.ok (by omega) (by omega)).mono ?_); rw [HM.out]; rintro e w3 ⟨A3, c3, rfl, hon, hx⟩; obtain ⟨⟨r0, r1, r2⟩, rz⟩ := SB2.out.ext ((Ext.alloc _ _).trans hx); have HO3 := Lib.hid hon; have HX3 := Lib.hid ((HX.out.trans (Ext.alloc _ _)).trans hx); clear hon hx))
  have hlt := SB2.out.lt
  exact bodyPost_ret (v := .tuple #[dv d'.neg A3 (len d'.m) c3 d'.den, I 0]) (by simp [results, Tryz.results66, go_sem, r0, r1, r2]) rfl (DyNum.end3 rfl HO3.out HX3.out (by simp; omega) (Nat.le_refl _) (by simp; omega))

set_option maxRecDepth 100000 in
set_option maxHeartbeats 1000000 in
theorem rmake_err {w : World} (n s : Int) (hs : s < 0 ∨ 65536 < s) : Calls Tryz.prog 66 #[I n, I s] w fun e w' => e = .returned (.tuple #[dv false none 0 0 0, I 3]) ∧ Ext w w' := by
  rcases hs with hs | hs
  · go_enter Tryz.func66, Tryz.ntmps66
    go_wp2_with fail
    exact bodyPost_ret (v := .tuple #[dv false none 0 0 0, I 3]) (by simp [results, Tryz.results66, go_sem]) rfl ⟨rfl, by repeat (first | exact Ext.alloc _ _ | refine Ext.set ?_ (by omega) _)⟩
  · go_enter Tryz.func66, Tryz.ntmps66
    go_wp2_with fail
    exact bodyPost_ret (v := .tuple #[dv false none 0 0 0, I 3]) (by simp [results, Tryz.results66, go_sem]) rfl ⟨rfl, by repeat (first | exact Ext.alloc _ _ | refine Ext.set ?_ (by omega) _)⟩

end Go.Proofs.YtbpcekibdnpkhaaGreatDoor
