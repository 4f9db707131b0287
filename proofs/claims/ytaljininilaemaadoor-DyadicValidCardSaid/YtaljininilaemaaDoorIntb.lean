/- Numbers as ints: the code, positive numbers. -/
import Derived.Test.YtaljininilaemaaDoorInt
import Derived.Deep.RegionHeld3
import Derived.Deep.DeepCutAuto
namespace Go.Proofs.YtaljininilaemaaDoor
open Go.RowKit

set_option maxRecDepth 100000 in
set_option maxHeartbeats 1000000 in
theorem int_fy {w : World} {neg : Bool} {A A' : Option Addr} {n c c' : Nat} {den : Int} {d : DV} (h : Dy w neg A n c den d A' c') (hT : Tabs w) (hn : d.neg = false) (hi : isI d = true) : Calls Tryd.prog 13 #[dv neg A n c den] w fun e w' => e = .returned (.tuple #[I (if isI d then ivD d else 0), .bool (isI d)]) ∧ Ext w w' := by
  have H := Lib.hid h; have HT := Lib.hid hT; have HNN := Lib.hid hn; have HII := Lib.hid hi; clear h hT hn hi
  have hl1 := H.out.lim
  have HN : Hid (∀ w', Ext w w' → Calls Tryd.prog 45 #[dv neg A n c den] w' (NumRes (dv d.neg A' (len d.m) c' d.den) w')) := H.out.num
  obtain ⟨t, ht⟩ : ∃ t, min (len d.m) 2 = t := ⟨_, rfl⟩
  have em : min (len d.m : Int) 2 = (t : Int) := by omega
  have em2 : max (t : Int) 0 = (t : Int) := by omega
  have ht2 : t ≤ 2 := by omega
  have htL : t ≤ len d.m := by omega
  have hcap := H.out.sl.1
  obtain ⟨L, hLe⟩ : ∃ L, len d.m = L := ⟨_, rfl⟩
  have HA := Lib.hid H.out.rd
  have HLe := Lib.hid hLe
  have HSF : Hid (Dy w d.neg A' L c' d.den d A' c') := by have := H.out.self; rw [hLe] at this; exact this
  rw [hLe] at HN em htL hl1 HA hcap
  have htc : t ≤ c' := by omega
  have HTT : Hid (min L 2 = t) := by show _ = _; rw [← hLe]; exact ht
  clear hLe ht
  obtain ⟨R, hR⟩ : ∃ R, (if isI d = true then ivD d else 0) = R := ⟨_, rfl⟩
  obtain ⟨P, hP⟩ : ∃ P, isI d = P := ⟨_, rfl⟩
  rw [hR, hP]
  have HRR := Lib.hid hR; have HPP := Lib.hid hP
  clear hR hP
  go_enter Tryd.func13, Tryd.ntmps13
  go_wp2_with (go_at_call 45; refine (HN.out _ (Ext.alloc _ _)).mono ?_; rintro e w1 ⟨rfl, hx⟩; have hb := (Bx.new w (.bool neg) (.slice A n c) (I den) 24).ext hx; have HBX := Lib.hid hb; obtain ⟨⟨k0, k1, k2⟩, hz⟩ := hb; have HX := Lib.hid ((Ext.alloc _ _).trans hx); clear hx)
  go_loopw [4, 17] (fun s4 s17 wr => Hid (Ext w wr) ∧ Hid (Bx wr w.heap.size (.bool d.neg) (.slice A' L c') (I d.den)) ∧ ∃ i : Nat, i ≤ t ∧ s17 = I i ∧ s4 = I (nI d.m i)) (fun _ s17 _ => t - (intOf s17).toNat)
  case atStart => exact ⟨ext_set3 HX.out (Nat.le_refl _) _ _ _, HBX.out.set3 _ _ _, 0, Nat.zero_le _, rfl, by rw [nI_zero]⟩
  case round =>
    clear HBX HX
    obtain ⟨hX, hB, i, hit, rfl, rfl⟩ := hrel
    obtain ⟨⟨q0, q1, q2⟩, qz⟩ := hB.out
    by_cases hlt : i < t
    · obtain ⟨b2, o2', rfl, hb2, c2⟩ := (HA.out.ext hX.out).at_ (k := i) (by omega)
      have hxl := dg_lt d.m i
      obtain ⟨x, hxe⟩ : ∃ x, dg d.m i = x := ⟨_, rfl⟩
      rw [hxe] at c2 hxl
      have HXE := Lib.hid hxe
      clear hxe
      have i01 : i = 0 ∨ i = 1 := by omega
      rcases i01 with rfl | rfl
      · rw [Nat.add_zero] at c2
        go_wp2
        go_roundw
        case rel => exact ⟨hX, hB, 1, by omega, rfl, by rw [← HXE.out, nI_or0]⟩
        case measure => simp [intOf]; omega
      · go_wp2
        go_roundw
        case rel => exact ⟨hX, hB, 2, by omega, rfl, by rw [← HXE.out, nI_or1]⟩
        case measure => simp [intOf]; omega
    · have hie : i = t := by omega
      subst hie
      have hr0 : ∀ n : Int, -9223372036854775808 ≤ wrap64 n ∧ wrap64 n ≤ 9223372036854775807 := fun n => by unfold wrap64; omega
      have HV : isI d = true → (if d.neg then wrap64 (-(nI d.m i)) else nI d.m i) = ivD d := fun h => nI_isI H.out.wf h (by rw [HLe.out]; exact HTT.out)
      have hn := HNN.out; have hi := HII.out
      have hrn : -9223372036854775808 ≤ nI d.m i ∧ nI d.m i ≤ 9223372036854775807 := by unfold nI; exact hr0 _
      rw [hn] at HV q0
      have hr := hrn
      simp only [Bool.false_eq_true, if_false] at HV
      have hv : isI d = true → nI d.m i = ivD d := HV
      generalize nI d.m i = v at *
      clear HV hrn hr0
      obtain ⟨hr1, hr2⟩ := hr
      have HC := int_cmp H.out.wf v hr1 hr2 hv
      have HOK : Hid ((ofI v 0).ok ∧ len (ofI v 0).m ≤ 16777216) := ⟨ofI_ok _ _, Nat.le_trans (Nat.le_trans (len_mono (mkD_m_le _ _ _)) (len_abs hr1 hr2)) (by decide)⟩
      obtain ⟨o, ho⟩ : ∃ o, ofI v 0 = o := ⟨_, rfl⟩
      obtain ⟨z, hz⟩ : ∃ z, cmpD o d = z := ⟨_, rfl⟩
      rw [ho] at HC HOK
      rw [hz] at HC
      have HO := Lib.hid ho
      have HZ := Lib.hid hz
      have HB2 := Lib.hid hB.out
      have HXW := Lib.hid (hX.out.trans (Ext.drew _))
      have HS : Hid (∀ w', Ext wr.drew w' → w'.cell? ⟨w.heap.size, 0, none⟩ = some (.bool false) ∧ w'.cell? ⟨w.heap.size, 1, none⟩ = some (.slice A' L c') ∧ w'.cell? ⟨w.heap.size, 2, none⟩ = some (I d.den)) := fun w' e => by
        have := (HB2.out.ext ((Ext.drew _).trans e)).1
        rw [hn] at this
        exact this
      rw [hn] at HSF
      clear ho hz hv hB HB2 hX
      have hk := HS.out _ (Ext.refl _)
      rw [if_pos hi] at HC
      obtain ⟨hz0, hvv⟩ := HC
      have HR : Hid ((if isI d = true then ivD d else 0) = v ∧ isI d = true) := ⟨by rw [if_pos hi]; exact hvv.symm, hi⟩
      subst hz0
      clear hvv hi
      go_wp2_with fail
      go_region_held3 (fun w' => w'.cell? ⟨w.heap.size, 0, none⟩ = some (.bool false) ∧ w'.cell? ⟨w.heap.size, 1, none⟩ = some (.slice A' L c') ∧ w'.cell? ⟨w.heap.size, 2, none⟩ = some (I d.den)) (first | assumption | exact hk)
        (first
          | (have hg := HE1; clear hg; go_at_call 20; (with_reducible refine (cmp_any HI.out (HSF.out.ext (HXW.out.trans HE1.out))).mono ?_); rw [HZ.out]; rintro e w3 ⟨rfl, hx⟩; have HE2 := Lib.hid (HE1.out.trans hx); clear hk; have hk := HS.out _ HE2.out; clear hx)
          | (go_at_call 43; (with_reducible refine (of_any v _ (HT.out.ext HXW.out) hr1 hr2).mono ?_); rw [HO.out]; rintro e w2 ⟨A2, c2, rfl, hon, hx⟩; have HI := Lib.hid (Dy.of_on hon HOK.out.1 HOK.out.2 (Ext.refl _)); have HE1 := Lib.hid hx; clear hk; have hk := HS.out _ hx; clear hon hx))
      all_goals
        go_wp2_with fail
        go_ret2
        exact ⟨by rw [← HRR.out, ← HPP.out, HR.out.1, HR.out.2]; rfl, HXW.out.trans HE2.out⟩

set_option maxRecDepth 100000 in
set_option maxHeartbeats 1000000 in
theorem int_fn {w : World} {neg : Bool} {A A' : Option Addr} {n c c' : Nat} {den : Int} {d : DV} (h : Dy w neg A n c den d A' c') (hT : Tabs w) (hn : d.neg = false) (hi : ¬ isI d = true) : Calls Tryd.prog 13 #[dv neg A n c den] w fun e w' => e = .returned (.tuple #[I (if isI d then ivD d else 0), .bool (isI d)]) ∧ Ext w w' := by
  have H := Lib.hid h; have HT := Lib.hid hT; have HNN := Lib.hid hn; have HII := Lib.hid hi; clear h hT hn hi
  have hl1 := H.out.lim
  have HN : Hid (∀ w', Ext w w' → Calls Tryd.prog 45 #[dv neg A n c den] w' (NumRes (dv d.neg A' (len d.m) c' d.den) w')) := H.out.num
  obtain ⟨t, ht⟩ : ∃ t, min (len d.m) 2 = t := ⟨_, rfl⟩
  have em : min (len d.m : Int) 2 = (t : Int) := by omega
  have em2 : max (t : Int) 0 = (t : Int) := by omega
  have ht2 : t ≤ 2 := by omega
  have htL : t ≤ len d.m := by omega
  have hcap := H.out.sl.1
  obtain ⟨L, hLe⟩ : ∃ L, len d.m = L := ⟨_, rfl⟩
  have HA := Lib.hid H.out.rd
  have HLe := Lib.hid hLe
  have HSF : Hid (Dy w d.neg A' L c' d.den d A' c') := by have := H.out.self; rw [hLe] at this; exact this
  rw [hLe] at HN em htL hl1 HA hcap
  have htc : t ≤ c' := by omega
  have HTT : Hid (min L 2 = t) := by show _ = _; rw [← hLe]; exact ht
  clear hLe ht
  obtain ⟨R, hR⟩ : ∃ R, (if isI d = true then ivD d else 0) = R := ⟨_, rfl⟩
  obtain ⟨P, hP⟩ : ∃ P, isI d = P := ⟨_, rfl⟩
  rw [hR, hP]
  have HRR := Lib.hid hR; have HPP := Lib.hid hP
  clear hR hP
  go_enter Tryd.func13, Tryd.ntmps13
  go_wp2_with (go_at_call 45; refine (HN.out _ (Ext.alloc _ _)).mono ?_; rintro e w1 ⟨rfl, hx⟩; have hb := (Bx.new w (.bool neg) (.slice A n c) (I den) 24).ext hx; have HBX := Lib.hid hb; obtain ⟨⟨k0, k1, k2⟩, hz⟩ := hb; have HX := Lib.hid ((Ext.alloc _ _).trans hx); clear hx)
  go_loopw [4, 17] (fun s4 s17 wr => Hid (Ext w wr) ∧ Hid (Bx wr w.heap.size (.bool d.neg) (.slice A' L c') (I d.den)) ∧ ∃ i : Nat, i ≤ t ∧ s17 = I i ∧ s4 = I (nI d.m i)) (fun _ s17 _ => t - (intOf s17).toNat)
  case atStart => exact ⟨ext_set3 HX.out (Nat.le_refl _) _ _ _, HBX.out.set3 _ _ _, 0, Nat.zero_le _, rfl, by rw [nI_zero]⟩
  case round =>
    clear HBX HX
    obtain ⟨hX, hB, i, hit, rfl, rfl⟩ := hrel
    obtain ⟨⟨q0, q1, q2⟩, qz⟩ := hB.out
    by_cases hlt : i < t
    · obtain ⟨b2, o2', rfl, hb2, c2⟩ := (HA.out.ext hX.out).at_ (k := i) (by omega)
      have hxl := dg_lt d.m i
      obtain ⟨x, hxe⟩ : ∃ x, dg d.m i = x := ⟨_, rfl⟩
      rw [hxe] at c2 hxl
      have HXE := Lib.hid hxe
      clear hxe
      have i01 : i = 0 ∨ i = 1 := by omega
      rcases i01 with rfl | rfl
      · rw [Nat.add_zero] at c2
        go_wp2
        go_roundw
        case rel => exact ⟨hX, hB, 1, by omega, rfl, by rw [← HXE.out, nI_or0]⟩
        case measure => simp [intOf]; omega
      · go_wp2
        go_roundw
        case rel => exact ⟨hX, hB, 2, by omega, rfl, by rw [← HXE.out, nI_or1]⟩
        case measure => simp [intOf]; omega
    · have hie : i = t := by omega
      subst hie
      have hr0 : ∀ n : Int, -9223372036854775808 ≤ wrap64 n ∧ wrap64 n ≤ 9223372036854775807 := fun n => by unfold wrap64; omega
      have HV : isI d = true → (if d.neg then wrap64 (-(nI d.m i)) else nI d.m i) = ivD d := fun h => nI_isI H.out.wf h (by rw [HLe.out]; exact HTT.out)
      have hn := HNN.out; have hi := HII.out
      have hrn : -9223372036854775808 ≤ nI d.m i ∧ nI d.m i ≤ 9223372036854775807 := by unfold nI; exact hr0 _
      rw [hn] at HV q0
      have hr := hrn
      simp only [Bool.false_eq_true, if_false] at HV
      have hv : isI d = true → nI d.m i = ivD d := HV
      generalize nI d.m i = v at *
      clear HV hrn hr0
      obtain ⟨hr1, hr2⟩ := hr
      have HC := int_cmp H.out.wf v hr1 hr2 hv
      have HOK : Hid ((ofI v 0).ok ∧ len (ofI v 0).m ≤ 16777216) := ⟨ofI_ok _ _, Nat.le_trans (Nat.le_trans (len_mono (mkD_m_le _ _ _)) (len_abs hr1 hr2)) (by decide)⟩
      obtain ⟨o, ho⟩ : ∃ o, ofI v 0 = o := ⟨_, rfl⟩
      obtain ⟨z, hz⟩ : ∃ z, cmpD o d = z := ⟨_, rfl⟩
      rw [ho] at HC HOK
      rw [hz] at HC
      have HO := Lib.hid ho
      have HZ := Lib.hid hz
      have HB2 := Lib.hid hB.out
      have HXW := Lib.hid (hX.out.trans (Ext.drew _))
      have HS : Hid (∀ w', Ext wr.drew w' → w'.cell? ⟨w.heap.size, 0, none⟩ = some (.bool false) ∧ w'.cell? ⟨w.heap.size, 1, none⟩ = some (.slice A' L c') ∧ w'.cell? ⟨w.heap.size, 2, none⟩ = some (I d.den)) := fun w' e => by
        have := (HB2.out.ext ((Ext.drew _).trans e)).1
        rw [hn] at this
        exact this
      rw [hn] at HSF
      clear ho hz hv hB HB2 hX
      have hk := HS.out _ (Ext.refl _)
      rw [if_neg hi] at HC
      have HR : Hid ((if isI d = true then ivD d else 0) = 0 ∧ isI d = false) := ⟨by rw [if_neg hi], by simpa using hi⟩
      have hz1 : (z != 0) = true := by simpa using HC
      have hz2 : (z == 0) = false := by simpa using HC
      clear HC hi
      go_wp2_with fail
      go_region_held3 (fun w' => w'.cell? ⟨w.heap.size, 0, none⟩ = some (.bool false) ∧ w'.cell? ⟨w.heap.size, 1, none⟩ = some (.slice A' L c') ∧ w'.cell? ⟨w.heap.size, 2, none⟩ = some (I d.den)) (first | assumption | exact hk)
        (first
          | (have hg := HE1; clear hg; go_at_call 20; (with_reducible refine (cmp_any HI.out (HSF.out.ext (HXW.out.trans HE1.out))).mono ?_); rw [HZ.out]; rintro e w3 ⟨rfl, hx⟩; have HE2 := Lib.hid (HE1.out.trans hx); clear hk; have hk := HS.out _ HE2.out; clear hx)
          | (go_at_call 43; (with_reducible refine (of_any v _ (HT.out.ext HXW.out) hr1 hr2).mono ?_); rw [HO.out]; rintro e w2 ⟨A2, c2, rfl, hon, hx⟩; have HI := Lib.hid (Dy.of_on hon HOK.out.1 HOK.out.2 (Ext.refl _)); have HE1 := Lib.hid hx; clear hk; have hk := HS.out _ hx; clear hon hx))
      all_goals
        go_wp2_with fail
        go_ret2
        exact ⟨by rw [← HRR.out, ← HPP.out, HR.out.1, HR.out.2]; rfl, HXW.out.trans HE2.out⟩

end Go.Proofs.YtaljininilaemaaDoor
