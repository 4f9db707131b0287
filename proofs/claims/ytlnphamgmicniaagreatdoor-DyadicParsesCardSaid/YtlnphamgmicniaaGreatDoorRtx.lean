/- The reference's Text. -/
import Derived.Test.YtlnphamgmicniaaGreatDoorRdc
import Derived.Test.YtlnphamgmicniaaGreatDoorRefh
namespace Go.Proofs.YtlnphamgmicniaaGreatDoor
open Go.RowKit

set_option maxRecDepth 100000 in
set_option maxHeartbeats 1000000 in
theorem rtext_any {w : World} {neg : Bool} {A A' : Option Addr} {n c c' : Nat} {den : Int} {d : DV} (h : Dy w neg A n c den d A' c') (hL : len d.m ≤ 1048576) :
    Calls Tryz.prog 72 #[dv neg A n c den] w fun e w' => e = .returned (.string (txtS d)) ∧ Ext w w' := by
  have H := Lib.hid h; clear h
  have h2 := H.out.wf.2.1
  have HN : Hid (∀ w', Ext w w' → Calls Tryz.prog 94 #[dv neg A n c den] w' (NumRes (dv d.neg A' (len d.m) c' d.den) w')) := H.out.norm
  have HDC : Hid (∀ w', Ext w w' → Calls Tryz.prog 114 #[.slice A' (len d.m) c'] w' fun e2 w2 => e2 = .returned (.string (digB d.m)) ∧ Ext w' w2) := fun w' e => rdecimal_any A' d.m c' w' (H.out.rd.ext e) H.out.sl hL
  have hs1 : (digB d.m).size ≤ 100000000 := by
    rw [digB_size, Lib.decDigits_length]
    have h9 := gl_words d.m
    by_cases hm : d.m = 0
    · rw [hm, Lib.nDigits_small (by decide)]; omega
    · have := top_len (m := d.m) (n := gl d.m) (i := gl d.m) rfl (by rw [gl_pos hm]; omega) (Nat.le_refl _)
      rw [Nat.sub_self, Nat.pow_zero, Nat.div_one, Lib.decDigits_length] at this
      omega
  have hs2 : (digB d.den).size ≤ 6 := by rw [digB_size]; exact nd_le (by decide) (by rw [show (10 : Nat) ^ 6 = 1000000 by decide]; omega)
  have l1 : (Lib.decDigits d.m).length ≤ 100000000 := by rw [← digB_size]; exact hs1
  have l2 : (Lib.decDigits d.den).length ≤ 6 := by rw [← digB_size]; exact hs2
  clear hL
  have hdm : ((d.den : Int)) % 4294967296 = (d.den : Int) := by omega
  by_cases hd : d.den = 0
  · have hd' : ¬ (0 : Int) < (d.den : Int) := by omega
    cases hn : d.neg with
    | false =>
      have HR : Hid (txtS d = digB d.m) := by show _ = _; unfold txtS signB; rw [if_pos hd, hn]; rfl
      rw [HR.out]
      rw [hn] at HN
      clear HR
      go_enter Tryz.func72, Tryz.ntmps72
      go_wp2_with (first
        | (go_at_call 94; refine (HN.out _ (Ext.alloc _ _)).mono ?_; rintro e w1 ⟨rfl, hx⟩; obtain ⟨⟨k0, k1, k2⟩, hz, hx1⟩ := one_box hx; have HX := Lib.hid hx1; obtain ⟨hc, hf⟩ := hx.old; clear hx hx1)
        | (have hg := HX2; clear hg; go_at_call 114; (with_reducible refine (HDEN.out _).mono ?_); rintro e w5 ⟨rfl, hx⟩; have HX3 := Lib.hid (HX2.out.trans ((Ext.alloc _ _).trans hx)); clear hx)
        | (go_at_call 114; refine (HDC.out _ (ext_set3 HX.out (Nat.le_refl _) _ _ _)).mono ?_; rintro e w2 ⟨rfl, hx⟩; have hk := hx.old.1; have HX2 := Lib.hid ((ext_set3 HX.out (Nat.le_refl _) _ _ _).trans hx); clear hx))
      go_ret
      exact ⟨rfl, HX2.out⟩
    | true =>
      have HR : Hid (txtS d = ⟨#[45]⟩ ++ digB d.m) := by show _ = _; unfold txtS signB; rw [if_pos hd, hn]; rfl
      rw [HR.out]
      rw [hn] at HN
      clear HR
      go_enter Tryz.func72, Tryz.ntmps72
      go_wp2_with (first
        | (go_at_call 94; refine (HN.out _ (Ext.alloc _ _)).mono ?_; rintro e w1 ⟨rfl, hx⟩; obtain ⟨⟨k0, k1, k2⟩, hz, hx1⟩ := one_box hx; have HX := Lib.hid hx1; obtain ⟨hc, hf⟩ := hx.old; clear hx hx1)
        | (have hg := HX2; clear hg; go_at_call 114; (with_reducible refine (HDEN.out _).mono ?_); rintro e w5 ⟨rfl, hx⟩; have HX3 := Lib.hid (HX2.out.trans ((Ext.alloc _ _).trans hx)); clear hx)
        | (go_at_call 114; refine (HDC.out _ (ext_set3 HX.out (Nat.le_refl _) _ _ _)).mono ?_; rintro e w2 ⟨rfl, hx⟩; have hk := hx.old.1; have HX2 := Lib.hid ((ext_set3 HX.out (Nat.le_refl _) _ _ _).trans hx); clear hx))
      go_ret
      exact ⟨rfl, HX2.out⟩
  · have hd' : (0 : Int) < (d.den : Int) := by omega
    have HDEN : Hid (∀ w2 : World, Calls Tryz.prog 114 #[.slice (some ⟨w2.heap.size, 0, none⟩) 1 1] (w2.alloc (.cells #[.int .u32 (d.den : Int)] 80)) fun e w' => e = .returned (.string (digB d.den)) ∧ Ext (w2.alloc (.cells #[.int .u32 (d.den : Int)] 80)) w') := fun w2 => by
      have h1 : len d.den = 1 := by rw [len_pos hd, show d.den / 4294967296 = 0 by omega, len_zero]
      have := rdecimal_any (some ⟨w2.heap.size, 0, none⟩) d.den 1 (w2.alloc (.cells #[.int .u32 (d.den : Int)] 80)) (by
        rw [h1]
        intro _
        refine ⟨w2.heap.size, 0, rfl, by simp, fun i hi => ?_⟩
        obtain rfl : i = 0 := by omega
        rw [dg_zero, show d.den % 4294967296 = d.den by omega]
        go_simp) (by rw [h1]; exact ⟨Nat.le_refl _, by unfold maxLen; omega, fun e => by cases e⟩) (by rw [h1]; omega)
      rw [h1] at this; exact this
    cases hn : d.neg with
    | false =>
      have HR : Hid (txtS d = digB d.m ++ (⟨#[47, 50, 94]⟩ ++ digB d.den)) := by show _ = _; unfold txtS signB; rw [if_neg hd, hn]; rfl
      rw [HR.out]
      rw [hn] at HN
      clear HR
      go_enter Tryz.func72, Tryz.ntmps72
      go_wp2_with (first
        | (go_at_call 94; refine (HN.out _ (Ext.alloc _ _)).mono ?_; rintro e w1 ⟨rfl, hx⟩; obtain ⟨⟨k0, k1, k2⟩, hz, hx1⟩ := one_box hx; have HX := Lib.hid hx1; obtain ⟨hc, hf⟩ := hx.old; clear hx hx1)
        | (have hg := HX2; clear hg; go_at_call 114; (with_reducible refine (HDEN.out _).mono ?_); rintro e w5 ⟨rfl, hx⟩; have HX3 := Lib.hid (HX2.out.trans ((Ext.alloc _ _).trans hx)); clear hx)
        | (go_at_call 114; refine (HDC.out _ (ext_set3 HX.out (Nat.le_refl _) _ _ _)).mono ?_; rintro e w2 ⟨rfl, hx⟩; have hk := hx.old.1; have HX2 := Lib.hid ((ext_set3 HX.out (Nat.le_refl _) _ _ _).trans hx); clear hx))
      go_ret
      exact ⟨rfl, HX3.out⟩
    | true =>
      have HR : Hid (txtS d = (⟨#[45]⟩ ++ digB d.m) ++ (⟨#[47, 50, 94]⟩ ++ digB d.den)) := by show _ = _; unfold txtS signB; rw [if_neg hd, hn]; rfl
      rw [HR.out]
      rw [hn] at HN
      clear HR
      go_enter Tryz.func72, Tryz.ntmps72
      go_wp2_with (first
        | (go_at_call 94; refine (HN.out _ (Ext.alloc _ _)).mono ?_; rintro e w1 ⟨rfl, hx⟩; obtain ⟨⟨k0, k1, k2⟩, hz, hx1⟩ := one_box hx; have HX := Lib.hid hx1; obtain ⟨hc, hf⟩ := hx.old; clear hx hx1)
        | (have hg := HX2; clear hg; go_at_call 114; (with_reducible refine (HDEN.out _).mono ?_); rintro e w5 ⟨rfl, hx⟩; have HX3 := Lib.hid (HX2.out.trans ((Ext.alloc _ _).trans hx)); clear hx)
        | (go_at_call 114; refine (HDC.out _ (ext_set3 HX.out (Nat.le_refl _) _ _ _)).mono ?_; rintro e w2 ⟨rfl, hx⟩; have hk := hx.old.1; have HX2 := Lib.hid ((ext_set3 HX.out (Nat.le_refl _) _ _ _).trans hx); clear hx))
      go_ret
      exact ⟨rfl, HX3.out⟩
end Go.Proofs.YtlnphamgmicniaaGreatDoor
