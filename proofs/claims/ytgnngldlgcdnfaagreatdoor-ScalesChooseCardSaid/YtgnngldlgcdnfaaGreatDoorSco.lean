/- Package scales: the reference's Choose and Uniform. -/
import Derived.Test.YtgnngldlgcdnfaaGreatDoorSck
import Derived.Test.YtgnngldlgcdnfaaGreatDoorOwi
namespace Go.Proofs.YtgnngldlgcdnfaaGreatDoor
open Go Go.RowKit
attribute [local go_sem ↓] Go.wp_at_zero Go.wp_at_succ

/-- The scales that are chosen. -/
def chF (S : Nat → IV) (i : Nat) : Int := chS (S i)
theorem chF_gs (S : Nat → IV) (i : Nat) : chF S i = gsF (mgD (S i)) 31 := rfl
def RcP (D : Dia) (n : Nat) (b : Nat → Bool) (S : Nat → IV) (w : World) (e : Ending) (w' : World) : Prop :=
  (chE D.nb n b S ≠ 0 ∧ e = .returned (.tuple #[.slice none 0 0, I (chE D.nb n b S)]) ∧ Ext w w') ∨
  (chE D.nb n b S = 0 ∧ ∃ A c g, e = .returned (.tuple #[.slice A n c, I 0]) ∧ w.heap.size ≤ g ∧ OwI w' g A c (chF S) n ∧ Ext w w')
set_option maxRecDepth 100000 in
set_option maxHeartbeats 4000000 in
theorem rChoose_any {w : World} {D : Dia} {p : Pl} {A : Option Addr} {n c : Nat} {R : Nat → RI} {S : Nat → IV} {b : Nat → Bool} (d : Dm w D p) (hn : n ≤ 1000000) (rs : RnI w A n R) (el : ∀ k, k < n → ElR w (R k) (S k) (b k))
    (hls : ∀ k, k < n → b k = true → len (mgD (S k)).m ≤ 140) :
    Calls Tryz.prog 45 #[dgv D p, .slice A n c] w (RcP D n b S w) := by
  have lb := d.lb
  unfold maxLen at lb
  obtain ⟨W1, hW1⟩ : ∃ W1, W1 = w.alloc (.cells #[.slice p.AI D.ni p.cI, .slice p.AB D.nb p.cB, .slice p.AO D.no p.cO] 26) := ⟨_, rfl⟩
  have hE : Ext w W1 := by rw [hW1]; exact Ext.alloc _ _
  have hbd : Bd W1 w.heap.size D p := by rw [hW1]; exact Bd.new _ _ _ _
  have HCK : Hid (∀ w', Ext W1 w' → Calls Tryz.prog 110 #[dgv D p, .slice A n c] w' fun e w'' => e = .returned (I (rgE D.nb n b)) ∧ Ext w' w'') := fun w' e => rCheck13_any (d.ext (hE.trans e)) hn (rs.ext (hE.trans e)) fun k hk => (el k hk).ext (hE.trans e)
  have HE := Lib.hid hE
  have HRS := Lib.hid (rs.ext hE)
  have HEL : Hid (∀ k, k < n → ElR W1 (R k) (S k) (b k)) := fun k hk => (el k hk).ext hE
  have HLS := Lib.hid hls
  obtain ⟨c0, c1, c2⟩ := hbd
  clear d rs el hE hls
  by_cases hr : rgE D.nb n b ≠ 0
  · have HR : Hid (∀ (e : Ending) (w' : World), e = .returned (.tuple #[.slice none 0 0, I (rgE D.nb n b)]) → Ext w w' → RcP D n b S w e w') := fun e w' h x => .inl ⟨by rw [chE_r hr]; exact hr, by rw [chE_r hr]; exact h, x⟩
    have hr' : (rgE D.nb n b != 0) = true := by simpa using hr
    clear hr
    generalize rgE D.nb n b = q at *
    go_enter Tryz.func45, Tryz.ntmps45
    go_upto_region 1 with fail
    rw [← hW1]; clear hW1
    go_wp2_with (go_at_call 110; (with_reducible refine (HCK.out _ (Ext.refl _)).mono ?_); rintro e1 w1 ⟨rfl, h1⟩)
    go_ret2
    exact HR.out _ _ rfl (HE.out.trans h1)
  have hr0 : rgE D.nb n b = 0 := by omega
  have HR0 := Lib.hid hr0
  rw [hr0] at HCK
  have hbt := (rgE_z hr0).2
  have HCN : Hid (∀ k, k < n → CnI W1 (R k) (S k)) := fun k hk => (HEL.out k hk).cn (hbt k hk)
  have HLM : Hid (∀ k, k < n → len (mgD (S k)).m ≤ 140) := fun k hk => HLS.out k hk (hbt k hk)
  have HRL : Hid (∀ (e : Ending) (w' : World) (i : Nat), i < n → chF S i < 0 → e = .returned (.tuple #[.slice none 0 0, I 4]) → Ext w w' → RcP D n b S w e w') := fun e w' i hi hq h x => by
    have h4 := chE_large (S := S) hr0 hi hq
    exact .inl ⟨by rw [h4]; decide, by rw [h4]; exact h, x⟩
  have HRO : Hid (∀ (e : Ending) (w' : World) A c g, (∀ i, i < n → 0 ≤ chF S i) → e = .returned (.tuple #[.slice A n c, I 0]) → w.heap.size ≤ g → OwI w' g A c (chF S) n → Ext w w' → RcP D n b S w e w') := fun e w' A c g hq h hg ho x =>
    .inr ⟨chE_ok hr0 hq, A, c, g, h, hg, ho, x⟩
  clear hr hr0 hbt HEL HLS HR0
  go_enter Tryz.func45, Tryz.ntmps45
  go_upto_region 1 with fail
  rw [← hW1]; clear hW1
  go_upto_region 4 with (go_at_call 110; (with_reducible refine (HCK.out _ (Ext.refl _)).mono ?_); rintro e1 w1 ⟨rfl, h1⟩)
  have HX1 := Lib.hid h1
  clear c0 c1 c2 h1
  go_wp2_with fail
  clear HCK
  go_loopw [7, 19] (fun s7 s wr => ∃ (j : Nat) (A' : Option Addr) (c' : Nat), j ≤ n ∧ s = I j ∧ s7 = .slice A' j c' ∧ Hid (∀ i, i < j → 0 ≤ chF S i) ∧ Hid (OwI wr w1.heap.size A' c' (chF S) j) ∧ Hid (Ext w1 wr)) (fun _ s _ => n - (intOf s).toNat)
  case atStart => exact ⟨0, none, 0, Nat.zero_le _, rfl, rfl, fun i hi => absurd hi (by omega), OwI.nil _ _ _, Ext.refl _⟩
  case round =>
    obtain ⟨j, A', c', hj, rfl, rfl, HB, HO, H⟩ := hrel
    by_cases hlt : j < n
    · obtain ⟨wo, hwo⟩ : ∃ wo, wo = wr := ⟨_, rfl⟩
      subst hwo
      have hX := HX1.out.trans H.out
      obtain ⟨bb, oo, hba, hbb, hc⟩ := HRS.out.ext hX (by omega)
      obtain ⟨x0, x1, x2, x3, x4, x5⟩ := hc j hlt
      have cn := (HCN.out j hlt).ext hX
      have hlm := HLM.out j hlt
      have hlt' : (j : Int) < (n : Int) := by omega
      obtain ⟨W2, hW2⟩ : ∃ W2, W2 = wo.alloc (.cells #[.bool (R j).lo.neg, .slice (R j).lo.A (R j).lo.n (R j).lo.c, I (R j).lo.den, .bool (R j).hi.neg, .slice (R j).hi.A (R j).hi.n (R j).hi.c, I (R j).hi.den] 58) := ⟨_, rfl⟩
      have hE2 : Ext wo W2 := by rw [hW2]; exact Ext.alloc _ _
      have HB2 : Hid (B6 W2 wo.heap.size (.bool (R j).lo.neg) (.slice (R j).lo.A (R j).lo.n (R j).lo.c) (I (R j).lo.den) (.bool (R j).hi.neg) (.slice (R j).hi.A (R j).hi.n (R j).hi.c) (I (R j).hi.den)) := by show B6 _ _ _ _ _ _ _ _; rw [hW2]; exact B6.new _ _ _ _ _ _ _ _
      have HAM : Hid (∀ w' (x : Int), Ext W2 w' → 0 ≤ x → x ≤ 30 → Calls Tryz.prog 111 #[(R j).v, I x, I 1073741824] w' fun e w'' => e = .returned (.bool (fitB (mgD (S j)) x 1073741824)) ∧ Ext w' w'') := fun w' x e h0 h1 =>
        rRoom_any x 1073741824 (cn.ext (hE2.trans e)) hlm ⟨by omega, by omega⟩ ⟨by omega, by omega⟩
      have HCF : Hid (chF S j = gsF (mgD (S j)) 31) := chF_gs S j
      have HX2 : Hid (Ext wo W2) := hE2
      have HBA := Lib.hid hba
      clear hc hX hE2 cn hlm
      generalize mgD (S j) = mj at *
      generalize R j = rj at *
      obtain ⟨⟨n1, A1, l1, e1', d1⟩, ⟨n2, A2, l2, e2', d2⟩⟩ := rj
      simp only at hW2 x0 x1 x2 x3 x4 x5 HAM HB2
      rw [hba]
      go_upto_region 8 with fail
      rw [← hW2]; clear hW2 x0 x1 x2 x3 x4 x5
      clear hba
      go_wp2_with fail
      go_loopw [10] (fun s wr => ∃ (f : Int) (k : Nat), s = I f ∧ f = (k : Int) - 1 ∧ k ≤ 31 ∧ Hid (gsF mj 31 = gsF mj k) ∧ Hid (Ext W2 wr)) (fun s _ => (intOf s + 1).toNat)
      case atStart => exact ⟨30, 31, rfl, by decide, by omega, rfl, Ext.refl _⟩
      case round =>
        obtain ⟨f, k, rfl, hf, hk, HG, HW⟩ := hrel
        obtain ⟨⟨k0, k1, k2, k3, k4, k5⟩, _⟩ := HB2.out.ext HW.out
        by_cases h0 : 0 ≤ f
        · obtain ⟨k', rfl⟩ : ∃ k', k = k' + 1 := ⟨k - 1, by omega⟩
          have hfk : f = (k' : Int) := by omega
          have HFK := Lib.hid hfk
          have HAM2 := Lib.hid (HAM.out wr f HW.out h0 (by omega))
          have HGS : Hid (gsF mj 31 = if fitB mj f 1073741824 = true then f else gsF mj k') := by show _ = _; rw [HG.out, hfk]; rfl
          obtain ⟨z, hz⟩ : ∃ z, fitB mj f 1073741824 = z := ⟨_, rfl⟩
          rw [hz] at HAM2 HGS
          clear hz HG hfk hf
          have hw1 : IntKind.i64.wrap (f - 1) = f - 1 := IntWalk.i64_in _ (by have := HFK.out; omega)
          cases z with
          | false =>
            have HG2 : Hid (gsF mj 31 = gsF mj k') := HGS.out
            clear HGS
            go_wp2_with (go_at_call 111; (with_reducible refine HAM2.out.mono ?_); rintro e3 w3 ⟨rfl, h3⟩)
            go_roundw
            case rel => exact ⟨f - 1, k', by first | rfl | rw [hw1] | go_num, by have := HFK.out; omega, by omega, HG2, HW.out.trans (by (with_reducible (repeat (first | exact Ext.refl _ | assumption | (refine Ext.toSet ?_ (by omega)) | refine Ext.toAlloc ?_ | refine Ext.toDrew ?_ | refine Ext.toDrewN ?_ | refine Ext.trans ?_ (by assumption)))); (first | done | fail "no"))⟩
            case measure => simp [intOf]; omega
          | true =>
            have HV : Hid (chF S j = f) := by show _ = _; rw [HCF.out, HGS.out]; rfl
            have hnf : ¬ f < 0 := by omega
            have HB3 : Hid (∀ i, i < j + 1 → 0 ≤ chF S i) := fun i hi => by
              by_cases e : i = j
              · subst e; rw [HV.out]; exact h0
              · exact HB.out i (by omega)
            have hs1 := H.out.size
            have hs2 := (HX2.out.trans HW.out).size
            clear HGS hw1
            go_wp2_with (first
              | (go_at_call 111; (with_reducible refine HAM2.out.mono ?_); rintro e3 w3 ⟨rfl, h3⟩; have HX3 := Lib.hid (HX2.out.trans (HW.out.trans h3)); have hs3 := HX3.out.size; clear h3)
              | (at_builtin; refine appI rfl _ _ rfl w1.heap.size A' c' (chF S) j rfl (HO.out.ext (HX3.out.trans (Ext.alloc _ _))) _ _ rfl (by rw [HV.out]; go_simp) (by omega) (by simp; omega) ?_; intro g cap w4 hown hgrow hat hltg; have HN := Lib.hid hown; have HG4 := Lib.hid (growI_ext (H.out.trans (HX3.out.trans (Ext.alloc _ _))) (HO.out.ext (HX3.out.trans (Ext.alloc _ _))) (Nat.le_refl _) hgrow); clear hown hgrow hat hltg))
            (try rw [← HBA.out])
            go_roundw
            case rel => exact ⟨j + 1, _, _, by omega, by go_num, rfl, HB3, HN, HG4⟩
            case measure => simp [intOf]; omega
        · obtain rfl : k = 0 := by omega
          have HV : Hid (chF S j < 0) := by show _ < _; rw [HCF.out, HG.out]; show (-1 : Int) < 0; decide
          have hf0 : f < 0 := by omega
          clear hf hk HG
          go_wp2_with fail
          go_ret2
          exact HRL.out _ _ j hlt HV.out rfl (HE.out.trans (HX1.out.trans (H.out.trans (HX2.out.trans HW.out))))
    · obtain rfl : j = n := by omega
      go_wp2_with fail
      go_ret2
      exact HRO.out _ _ _ _ _ HB.out rfl (HE.out.trans HX1.out).size HO.out (HE.out.trans (HX1.out.trans H.out))
end Go.Proofs.YtgnngldlgcdnfaaGreatDoor
