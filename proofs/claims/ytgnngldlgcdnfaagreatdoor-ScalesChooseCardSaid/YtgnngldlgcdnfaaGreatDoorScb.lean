/- Package scales: isAtMost, greatestScale; Room of the reference. -/
import Derived.Test.YtgnngldlgcdnfaaGreatDoorSca
import Derived.Test.YtgnngldlgcdnfaaGreatDoorRnm
import Derived.Test.YtgnngldlgcdnfaaGreatDoorRga
import Derived.Test.YtgnngldlgcdnfaaGreatDoorIvmx
import Derived.Deep.RegionHeld3
namespace Go.Proofs.YtgnngldlgcdnfaaGreatDoor
open Go Go.RowKit
attribute [local go_sem ↓] Go.wp_at_zero Go.wp_at_succ

theorem end_max' {u v : DV} (hu : End u) (hv : End v) : End (maxD u v) := ⟨maxD_ok hu.1 hv.1, by unfold maxD; split; exact hv.2; exact hu.2⟩
theorem end_abs' {u : DV} (hu : End u) : End (absD u) := ⟨mkD_ok _ _ _, Nat.le_trans (len_mono (mkD_m_le _ _ _)) hu.2⟩
def lmtOk (lim : Int) : Prop := -9223372036854775808 ≤ lim ∧ lim ≤ 9223372036854775807
theorem of_sz (lim : Int) (h : lmtOk lim) : (ofI lim 0).ok ∧ len (ofI lim 0).m ≤ 16777216 :=
  ⟨ofI_ok _ _, Nat.le_trans (len_mono (mkD_m_le _ _ _)) (Nat.le_trans (len_le (n := 2) (by have := h.1; have := h.2; unfold pB; omega)) (by decide))⟩
theorem shift_sz {m : DV} (f : Int) (hl : len m.m ≤ 4194304) : (shiftD m f).ok ∧ len (shiftD m f).m ≤ 16777216 := ⟨shiftD_ok _ _, by have := lim_shift m f; omega⟩
set_option maxRecDepth 100000 in
set_option maxHeartbeats 2000000 in
theorem isAtMost_any {w : World} {r : RN} {m : DV} (f lim : Int) (h : Cn w r m) (hl : len m.m ≤ 4194304) (hT : Tabs w) (hf : lmtOk f) (hm : lmtOk lim) :
    Calls Tryz.prog 112 #[r.v, I f, I lim] w fun e w' => e = .returned (.bool (fitB m f lim)) ∧ Ext w w' := by
  obtain ⟨sv, hs⟩ : ∃ sv, shiftD m f = sv := ⟨_, rfl⟩
  obtain ⟨ov, ho⟩ : ∃ ov, ofI lim 0 = ov := ⟨_, rfl⟩
  obtain ⟨v, hv⟩ : ∃ v, cmpD sv ov = v := ⟨_, rfl⟩
  have hb : fitB m f lim = decide (v ≤ 0) := by unfold fitB; rw [hs, ho, hv]
  have SZ := Lib.hid (hs ▸ shift_sz f hl); have OZ := Lib.hid (ho ▸ of_sz lim hm)
  obtain ⟨W1, hW1⟩ : ∃ W1, W1 = w.alloc (.cells #[.bool r.neg, .slice r.A r.n r.c, I r.den] 56) := ⟨_, rfl⟩
  have hE : Ext w W1 := by rw [hW1]; exact Ext.alloc _ _
  have hbx : Bx W1 w.heap.size (.bool r.neg) (.slice r.A r.n r.c) (I r.den) := by rw [hW1]; exact Bx.new _ _ _ _ _
  have HBX : Hid (∀ w', Ext W1 w' → w'.cell? ⟨w.heap.size, 0, none⟩ = some (.bool r.neg) ∧ w'.cell? ⟨w.heap.size, 1, none⟩ = some (.slice r.A r.n r.c) ∧ w'.cell? ⟨w.heap.size, 2, none⟩ = some (I r.den)) := fun w' e => (hbx.ext e).1
  have HS : Hid (∀ w', Ext W1 w' → Calls Tryz.prog 162 #[r.v, I f] w' (DyRes sv w')) := fun w' e => by rw [← hs]; exact shift_any f (h.ext (hE.trans e)).dy (hT.ext (hE.trans e)) hf.1 hf.2
  have HO : Hid (∀ w', Ext W1 w' → Calls Tryz.prog 163 #[I lim] w' (DyRes ov w')) := fun w' e => by rw [← ho]; exact of_any lim w' (hT.ext (hE.trans e)) hm.1 hm.2
  have HC : Hid (∀ w' A c B k, Cn w' (cnR sv A c) sv → Cn w' (cnR ov B k) ov → Calls Tryz.prog 88 #[(cnR sv A c).v, (cnR ov B k).v] w' (fun e w'' => e = .returned (I v) ∧ Ext w' w'')) := fun w' A c B k a b => by rw [← hv]; exact cmp_any a.dy b.dy
  have HE := Lib.hid hE
  rw [hb]
  obtain ⟨k0, k1, k2⟩ := HBX.out _ (Ext.refl _)
  clear h hl hT hf hm hs ho hv hb hE hbx
  obtain ⟨n1, A1, l1, c1, d1⟩ := r
  show Calls _ _ #[dv n1 A1 l1 c1 d1, I f, I lim] _ _
  simp only at HS HBX k0 k1 k2 hW1
  go_enter Tryz.func112, Tryz.ntmps112
  go_upto_region 1 with fail
  rw [← hW1]; clear hW1
  go_wp2_with (first
    | (go_at_call 162; (with_reducible refine (HS.out _ (by (with_reducible (repeat (first | exact Ext.refl _ | assumption | (refine Ext.toSet ?_ (by omega)) | refine Ext.toAlloc ?_ | refine Ext.toDrew ?_ | refine Ext.toDrewN ?_ | refine Ext.trans ?_ (by assumption)))); (first | done | fail "no"))).mono ?_); rintro e3 w3 hr; obtain ⟨A3, c3, rfl, cn3, _, hx3⟩ := hr.cn SZ.out.1 SZ.out.2; have CN3 := Lib.hid cn3; clear hr cn3)
    | (go_at_call 163; (with_reducible refine (HO.out _ (by (with_reducible (repeat (first | exact Ext.refl _ | assumption | (refine Ext.toSet ?_ (by omega)) | refine Ext.toAlloc ?_ | refine Ext.toDrew ?_ | refine Ext.toDrewN ?_ | refine Ext.trans ?_ (by assumption)))); (first | done | fail "no"))).mono ?_); rintro e4 w4 hr; obtain ⟨A4, c4, rfl, cn4, _, hx4⟩ := hr.cn OZ.out.1 OZ.out.2; have CN4 := Lib.hid cn4; clear hr cn4)
    | (go_at_call 88; (with_reducible refine (HC.out _ _ _ _ _ (CN3.out.ext (by (with_reducible (repeat (first | exact Ext.refl _ | assumption | (refine Ext.toSet ?_ (by omega)) | refine Ext.toAlloc ?_ | refine Ext.toDrew ?_ | refine Ext.toDrewN ?_ | refine Ext.trans ?_ (by assumption)))); (first | done | fail "no"))) (CN4.out.ext (by (with_reducible (repeat (first | exact Ext.refl _ | assumption | (refine Ext.toSet ?_ (by omega)) | refine Ext.toAlloc ?_ | refine Ext.toDrew ?_ | refine Ext.toDrewN ?_ | refine Ext.trans ?_ (by assumption)))); (first | done | fail "no")))).mono ?_); rintro e5 w5 ⟨rfl, hx5⟩))
  go_ret
  exact ⟨rfl, HE.out.trans (by (with_reducible (repeat (first | exact Ext.refl _ | assumption | (refine Ext.toSet ?_ (by omega)) | refine Ext.toAlloc ?_ | refine Ext.toDrew ?_ | refine Ext.toDrewN ?_ | refine Ext.trans ?_ (by assumption)))); (first | done | fail "no"))⟩

/-- What greatestScale gives. -/
def GsP (g : Int) (w : World) (e : Ending) (w' : World) : Prop := (0 ≤ g ∧ e = .returned (.tuple #[I g, .bool true]) ∧ Ext w w') ∨ (g < 0 ∧ e = .returned (.tuple #[I 0, .bool false]) ∧ Ext w w')
set_option maxRecDepth 100000 in
set_option maxHeartbeats 1000000 in
theorem greatestScale_any {w : World} {r : RN} {m : DV} (h : Cn w r m) (hl : len m.m ≤ 4194304) (hT : Tabs w) : Calls Tryz.prog 107 #[r.v] w (GsP (gsF m 31) w) := by
  have HA : Hid (∀ w' (x : Int), Ext w w' → 0 ≤ x → x ≤ 30 → Calls Tryz.prog 112 #[r.v, I x, I 1073741824] w' fun e w'' => e = .returned (.bool (fitB m x 1073741824)) ∧ Ext w' w'') := fun w' x e h0 h1 => isAtMost_any x 1073741824 (h.ext e) hl (hT.ext e) ⟨by omega, by omega⟩ ⟨by omega, by omega⟩
  obtain ⟨g, hg⟩ : ∃ g, gsF m 31 = g := ⟨_, rfl⟩
  have HG0 : Hid (gsF m (31 : Nat) = g) := hg
  rw [hg]
  obtain ⟨W1, hW1⟩ : ∃ W1, W1 = w.alloc (.cells #[.bool r.neg, .slice r.A r.n r.c, I r.den] 56) := ⟨_, rfl⟩
  have hE : Ext w W1 := by rw [hW1]; exact Ext.alloc _ _
  have hbx : Bx W1 w.heap.size (.bool r.neg) (.slice r.A r.n r.c) (I r.den) := by rw [hW1]; exact Bx.new _ _ _ _ _
  have HBX : Hid (∀ w', Ext W1 w' → w'.cell? ⟨w.heap.size, 0, none⟩ = some (.bool r.neg) ∧ w'.cell? ⟨w.heap.size, 1, none⟩ = some (.slice r.A r.n r.c) ∧ w'.cell? ⟨w.heap.size, 2, none⟩ = some (I r.den)) := fun w' e => (hbx.ext e).1
  have HE := Lib.hid hE
  clear h hl hT hg hE hbx
  obtain ⟨n1, A1, l1, c1, d1⟩ := r
  show Calls _ _ #[dv n1 A1 l1 c1 d1] _ _
  simp only at HA HBX hW1
  go_enter Tryz.func107, Tryz.ntmps107
  go_upto_region 1 with fail
  rw [← hW1]; clear hW1
  go_wp2_with fail
  go_loopw [4] (fun s wr => ∃ (k : Nat) (x : Int), k ≤ 31 ∧ x = (k : Int) - 1 ∧ s = I x ∧ Ext W1 wr ∧ Hid (gsF m k = g)) (fun s _ => (intOf s + 1).toNat)
  case atStart => exact ⟨31, 30, by omega, by omega, rfl, Ext.refl _, HG0⟩
  case round =>
    clear HG0
    obtain ⟨k, x, hk, hx, rfl, hxt, HG⟩ := hrel
    have HXK := Lib.hid hx
    have hk1 : x ≤ 30 := by omega
    clear hx
    by_cases h0 : 0 ≤ x
    · obtain ⟨k0, k1, k2⟩ := HBX.out _ hxt
      have hkx : Hid (gsF m k = if fitB m x 1073741824 = true then x else gsF m (k - 1)) := by
        have e1 := HXK.out
        obtain ⟨j, rfl⟩ : ∃ j, k = j + 1 := ⟨k - 1, by omega⟩
        have e2 : x = (j : Int) := by omega
        show gsF m (j + 1) = _
        rw [e2]; rfl
      have HC := Lib.hid (fun w' (e : Ext wr w') => HA.out w' x (HE.out.trans (hxt.trans e)) h0 hk1)
      obtain ⟨f, hf⟩ : ∃ f, fitB m x 1073741824 = f := ⟨_, rfl⟩
      rw [hf] at HC hkx
      clear hf
      cases f with
      | true =>
        have HR : Hid (x = g) := by show _ = _; rw [← HG.out, hkx.out, if_pos rfl]
        clear hkx
        go_wp2_with (go_at_call 112; (with_reducible refine (HC.out _ (Ext.refl _)).mono ?_); rintro e1 w1 ⟨rfl, h1⟩)
        go_ret2
        exact .inl ⟨by have := HR.out; omega, by rw [← HR.out]; rfl, HE.out.trans (hxt.trans h1)⟩
      | false =>
        have HR : Hid (gsF m (k - 1) = g) := by show _ = _; rw [← HG.out, hkx.out, if_neg (by decide)]
        clear hkx
        go_wp2_with (go_at_call 112; (with_reducible refine (HC.out _ (Ext.refl _)).mono ?_); rintro e1 w1 ⟨rfl, h1⟩)
        go_roundw
        case rel => exact ⟨k - 1, x - 1, by omega, by have := HXK.out; omega, rfl, hxt.trans h1, HR⟩
        case measure => simp [intOf]; omega
    · have HR : Hid (g < 0) := by
        have e1 := HXK.out
        have : k = 0 := by omega
        subst this
        show g < 0
        rw [← HG.out]; unfold gsF; omega
      go_wp2_with fail
      go_ret2
      exact .inr ⟨HR.out, rfl, HE.out.trans hxt⟩
end Go.Proofs.YtgnngldlgcdnfaaGreatDoor
