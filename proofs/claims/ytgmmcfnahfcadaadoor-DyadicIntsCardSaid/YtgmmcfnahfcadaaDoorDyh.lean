/- Numbers as structs: signs, shifts, numbers of ints. -/
import Derived.Test.YtgmmcfnahfcadaaDoorDyf
namespace Go.Proofs.YtgmmcfnahfcadaaDoor
open Go.RowKit

/-- Behind a call: a box that lies in the newest block. -/
theorem one_box {w w1 : World} {u0 u1 u2 : Value} {t : TypeId} (hx : Ext (w.alloc (.cells #[u0, u1, u2] t)) w1) : St w1 w.heap.size u0 u1 u2 ∧ w.heap.size < w1.heap.size ∧ Ext w w1 :=
  ⟨(St.new w u0 u1 u2 t).ext hx, ((St.new w u0 u1 u2 t).ext hx).lt, (Ext.alloc _ _).trans hx⟩

theorem sign_0 {d : DV} (h : d.m = 0) : signD d = 0 := by unfold signD; rw [if_pos h]
theorem sign_n {d : DV} (h : d.m ≠ 0) (hn : d.neg = true) : signD d = -1 := by unfold signD; rw [if_neg h, hn]; rfl
theorem sign_p {d : DV} (h : d.m ≠ 0) (hn : d.neg = false) : signD d = 1 := by unfold signD; rw [if_neg h, hn]; rfl
set_option maxRecDepth 100000 in
set_option maxHeartbeats 1000000 in
theorem sign_any {w : World} {neg : Bool} {A A' : Option Addr} {n c c' : Nat} {den : Int} {d : DV} (h : Dy w neg A n c den d A' c') : Calls Tryd.prog 24 #[dv neg A n c den] w fun e w' => e = .returned (I (signD d)) ∧ Ext w w' := by
  have H := Lib.hid h; clear h
  have HN : Hid (∀ w', Ext w w' → Calls Tryd.prog 66 #[dv neg A n c den] w' (NumRes (dv d.neg A' (len d.m) c' d.den) w')) := H.out.num
  have hl1 := H.out.lim
  by_cases hm : d.m = 0
  · have HR := Lib.hid (sign_0 hm)
    have hl : len d.m = 0 := len_eq_zero.2 hm
    clear hm H
    rw [hl] at HN
    go_enter Tryd.func24, Tryd.ntmps24
    go_wp2_with (go_at_call 66; refine (HN.out _ (Ext.alloc _ _)).mono ?_; rintro e w1 ⟨rfl, hx⟩; obtain ⟨⟨k0, k1, k2⟩, hz, hx1⟩ := one_box hx; have HX := Lib.hid hx1; obtain ⟨hc, hf⟩ := hx.old; clear hx hx1)
    go_ret
    exact ⟨by rw [HR.out]; rfl, ext_set3 HX.out (Nat.le_refl _) _ _ _⟩
  · have hl : ((len d.m : Int) == 0) = false := by
      have : len d.m ≠ 0 := fun e => hm (len_eq_zero.1 e)
      simp; omega
    cases hn : d.neg with
    | true =>
      have HR := Lib.hid (sign_n hm hn)
      rw [hn] at HN
      clear hm hn H
      go_enter Tryd.func24, Tryd.ntmps24
      go_wp2_with (go_at_call 66; refine (HN.out _ (Ext.alloc _ _)).mono ?_; rintro e w1 ⟨rfl, hx⟩; obtain ⟨⟨k0, k1, k2⟩, hz, hx1⟩ := one_box hx; have HX := Lib.hid hx1; obtain ⟨hc, hf⟩ := hx.old; clear hx hx1)
      go_ret
      exact ⟨by rw [HR.out]; rfl, ext_set3 HX.out (Nat.le_refl _) _ _ _⟩
    | false =>
      have HR := Lib.hid (sign_p hm hn)
      rw [hn] at HN
      clear hm hn H
      go_enter Tryd.func24, Tryd.ntmps24
      go_wp2_with (go_at_call 66; refine (HN.out _ (Ext.alloc _ _)).mono ?_; rintro e w1 ⟨rfl, hx⟩; obtain ⟨⟨k0, k1, k2⟩, hz, hx1⟩ := one_box hx; have HX := Lib.hid hx1; obtain ⟨hc, hf⟩ := hx.old; clear hx hx1)
      go_ret
      exact ⟨by rw [HR.out]; rfl, ext_set3 HX.out (Nat.le_refl _) _ _ _⟩

theorem shift_nrmI {d : DV} (h : d.ok) (k : Int) (h1 : -65536 ≤ k) (h2 : k ≤ 65536) : nrmI d.neg d.m (d.den - k) = if k < 0 then mkD d.neg d.m (d.den + (-k).toNat) else mkD d.neg (d.m * 2 ^ k.toNat) d.den := by
  by_cases hk : k < 0
  · rw [if_pos hk]
    rw [show (d.den : Int) - k = ((d.den + (-k).toNat : Nat) : Int) by omega, nrmI_nat]
  · rw [if_neg hk]
    obtain ⟨j, rfl⟩ : ∃ j : Nat, k = (j : Int) := ⟨k.toNat, by omega⟩
    have hd := h.2.1
    simp only [Int.toNat_natCast]
    rcases Nat.lt_or_ge d.den j with hj | hj
    · rw [show (d.den : Int) - (j : Int) = -((j - d.den : Nat) : Int) by omega, nrmI_neg (by omega)]
      refine DV.uniq (mkD_ok _ _ _) (mkD_ok _ _ _) ?_
      rw [q_mkD _ _ (by decide), q_mkD _ _ hd, ← qOf_shift d.neg (d.m * 2 ^ (j - d.den)) 0 d.den, Nat.mul_assoc, ← Nat.pow_add, Nat.zero_add, show j - d.den + d.den = j by omega]
    · rw [show (d.den : Int) - (j : Int) = ((d.den - j : Nat) : Int) by omega, nrmI_nat]
      refine DV.uniq (mkD_ok _ _ _) (mkD_ok _ _ _) ?_
      rw [q_mkD _ _ (by omega), q_mkD _ _ hd, ← qOf_shift d.neg d.m (d.den - j) j, show d.den - j + j = d.den by omega]
theorem shiftD_nrmI {d : DV} (h : d.ok) (n : Int) : shiftD d n = nrmI d.neg d.m (d.den - clampN n) := by
  have : -65536 ≤ clampN n ∧ clampN n ≤ 65536 := by unfold clampN; omega
  rw [shift_nrmI h _ this.1 this.2]; rfl

set_option maxRecDepth 100000 in
set_option maxHeartbeats 1000000 in
theorem shift_any {w : World} {neg : Bool} {A A' : Option Addr} {n c c' : Nat} {den : Int} {d : DV} (s : Int) (h : Dy w neg A n c den d A' c') (hT : Tabs w) (hs1 : -9223372036854775808 ≤ s) (hs2 : s ≤ 9223372036854775807) : Calls Tryd.prog 31 #[dv neg A n c den, I s] w (DyRes (shiftD d s) w) := by
  have H := Lib.hid h; have HT := Lib.hid hT; clear h hT
  have hd1 := H.out.wf.2.1
  have hl1 := H.out.lim
  obtain ⟨d', hd'⟩ : ∃ d', shiftD d s = d' := ⟨_, rfl⟩
  obtain ⟨k, hk⟩ : ∃ k, clampN s = k := ⟨_, rfl⟩
  have hk1 : -65536 ≤ k ∧ k ≤ 65536 := by rw [← hk]; unfold clampN; omega
  obtain ⟨hk1, hk2⟩ := hk1
  rw [hd']
  have HD' : Hid (nrmI d.neg d.m ((d.den : Int) - k) = d') := by show _ = _; rw [← hd', shiftD_nrmI H.out.wf, hk]
  have HK : Hid (clampN s = k) := hk
  clear hd' hk
  have h3 : s < -65536 ∨ 65536 < s ∨ (-65536 ≤ s ∧ s ≤ 65536) := by omega
  rcases h3 with h3 | h3 | ⟨h3, h4⟩
  all_goals
    go_enter Tryd.func31, Tryd.ntmps31
    go_wp2_with (go_at_call 66; refine (H.out.num _ ((Ext.alloc _ _).trans (Ext.alloc _ _))).mono ?_; rintro e w1 ⟨rfl, hx⟩; obtain ⟨⟨k0, k1, k2⟩, s1, hz, hx1⟩ := two_boxes hx; have S1 := Lib.hid s1; have HX := Lib.hid hx1; obtain ⟨hc, hf⟩ := hx.old; clear hx hx1 s1)
    have HW := Lib.hid (ext_set3 HX.out (Nat.le_refl _))
    refine (normal_at _ _ _ _ _ _ d' (by rw [← HD'.out]; congr 1; have := HK.out; unfold clampN at this; omega) (HT.out.ext (HW.out _ _ _)) (H.out.rd.ext (HW.out _ _ _)) H.out.sl (by omega) (by omega) (by omega)).mono ?_
    rintro e w2 ⟨A2, c2, rfl, hon, hx⟩
    obtain ⟨r0, r1, r2⟩ := (S1.out.far3 (by omega) _ _ _).ext hx
    obtain ⟨hc2, hf2⟩ := hx.old
    have HX2 := Lib.hid ((HW.out _ _ _).trans hx)
    have HO := Lib.hid hon
    clear hon hx
    go_wp2_with fail
    exact bodyPost_ret (v := dv d'.neg A2 (len d'.m) c2 d'.den) (by simp [results, Tryd.results31, go_sem, r0, r1, r2]) rfl (DyRes.end3 rfl HO.out HX2.out (by simp; omega) (by omega) (by simp; omega))

theorem ofI_nrmI (n : Int) (k : Nat) : nrmI (decide (n < 0)) n.natAbs (k : Int) = ofI n k := by rw [nrmI_nat]; rfl
theorem len_abs {n : Int} (h1 : -9223372036854775808 ≤ n) (h2 : n ≤ 9223372036854775807) : len n.natAbs ≤ 2 := len_le (by show _ < 4294967296 ^ 2; omega)

set_option maxRecDepth 100000 in
set_option maxHeartbeats 1000000 in
theorem of_any (n : Int) (w : World) (hT : Tabs w) (h1 : -9223372036854775808 ≤ n) (h2 : n ≤ 9223372036854775807) : Calls Tryd.prog 51 #[I n] w (DyRes (ofI n 0) w) := by
  have HT := Lib.hid hT; clear hT
  have HD' := Lib.hid (ofI_nrmI n 0)
  have hl := len_abs h1 h2
  generalize ofI n 0 = d' at *
  go_enter Tryd.func51, Tryd.ntmps51
  go_wp2_with (go_at_call 70; refine (ofInt_any n _ h1 h2).mono ?_; rintro e w1 ⟨A1, c1, rfl, hon, hx⟩; have s1 := (St.new w (.bool false) (.slice none 0 0) (I 0) 24).ext hx; have HX := Lib.hid ((Ext.alloc _ _).trans hx); obtain ⟨hc, hf⟩ := hx.old; have HON := Lib.hid hon; have S1 := Lib.hid s1; clear hon hx s1)
  refine (normal_at _ _ _ _ _ _ d' HD'.out (HT.out.ext HX.out) HON.out.rd HON.out.ok (by omega) (by omega) (by omega)).mono ?_
  rintro e w2 ⟨A2, c2, rfl, hon2, hx2⟩
  obtain ⟨r0, r1, r2⟩ := S1.out.ext hx2
  have hz := S1.out.lt
  obtain ⟨hc2, hf2⟩ := hx2.old
  have HX2 := Lib.hid (HX.out.trans hx2)
  have HO := Lib.hid hon2
  clear hon2 hx2
  go_wp2_with fail
  exact bodyPost_ret (v := dv d'.neg A2 (len d'.m) c2 d'.den) (by simp [results, Tryd.results51, go_sem, r0, r1, r2]) rfl (DyRes.end3 rfl HO.out HX2.out (Nat.le_of_lt hz) (Nat.le_refl _) hz)

/-- What a function returns that may fail: a number and no error. -/
def DyOk (d : DV) (w : World) (e : Ending) (w' : World) : Prop := ∃ A c, e = .returned (.tuple #[dv d.neg A (len d.m) c d.den, .nilIface]) ∧ On w' w.heap.size A (len d.m) c (dg d.m) ∧ Ext w w'
theorem DyOk.end3 {d : DV} {w W w2 : World} {A : Option Addr} {c g : Nat} {e : Ending} {u0 u1 u2 : Value} (he : e = .returned (.tuple #[dv d.neg A (len d.m) c d.den, .nilIface])) (hon : On w2 W.heap.size A (len d.m) c (dg d.m)) (hx : Ext w w2) (hW : w.heap.size ≤ W.heap.size) (hg : w.heap.size ≤ g) (hg2 : g < W.heap.size) :
    DyOk d w e (((w2.setCell ⟨g, 0, none⟩ u0).setCell ⟨g, 1, none⟩ u1).setCell ⟨g, 2, none⟩ u2) :=
  ⟨A, c, he, (hon.set3 hg2 _ _ _).mono hW, ext_set3 hx hg _ _ _⟩
def DyErr (k : Int) (w : World) (e : Ending) (w' : World) : Prop := e = .returned (.tuple #[dv false none 0 0 0, .iface 46 (I k)]) ∧ Ext w w'

set_option maxRecDepth 100000 in
set_option maxHeartbeats 1000000 in
theorem make_any (n : Int) (k : Nat) (w : World) (hT : Tabs w) (h1 : -9223372036854775808 ≤ n) (h2 : n ≤ 9223372036854775807) (hk : k ≤ 65536) : Calls Tryd.prog 49 #[I n, I k] w (DyOk (ofI n k) w) := by
  have HT := Lib.hid hT; clear hT
  have HD' := Lib.hid (ofI_nrmI n k)
  have hl := len_abs h1 h2
  generalize ofI n k = d' at *
  go_enter Tryd.func49, Tryd.ntmps49
  go_wp2_with (first
    | (go_at_call 65; refine (isGrid_t _ _ (by omega) (by omega)).mono ?_; rintro e w' ⟨rfl, rfl⟩)
    | (go_at_call 70; refine (ofInt_any n _ h1 h2).mono ?_; rintro e w1 ⟨A1, c1, rfl, hon, hx⟩; have s1 := (St.new w (.bool false) (.slice none 0 0) (I 0) 24).ext hx; have HX := Lib.hid ((Ext.alloc _ _).trans hx); obtain ⟨hc, hf⟩ := hx.old; have HON := Lib.hid hon; have S1 := Lib.hid s1; clear hon hx s1))
  refine (normal_at _ _ _ _ _ _ d' HD'.out (HT.out.ext HX.out) HON.out.rd HON.out.ok (by omega) (by omega) (by omega)).mono ?_
  rintro e w2 ⟨A2, c2, rfl, hon2, hx2⟩
  obtain ⟨r0, r1, r2⟩ := S1.out.ext hx2
  have hz := S1.out.lt
  obtain ⟨hc2, hf2⟩ := hx2.old
  have HX2 := Lib.hid (HX.out.trans hx2)
  have HO := Lib.hid hon2
  clear hon2 hx2
  go_wp2_with fail
  exact bodyPost_ret (v := .tuple #[dv d'.neg A2 (len d'.m) c2 d'.den, .nilIface]) (by simp [results, Tryd.results49, go_sem, r0, r1, r2]) rfl (DyOk.end3 rfl HO.out HX2.out (Nat.le_of_lt hz) (Nat.le_refl _) hz)

set_option maxRecDepth 100000 in
set_option maxHeartbeats 1000000 in
theorem make_err (n k : Int) (w : World) (hk : k < 0 ∨ 65536 < k) : Calls Tryd.prog 49 #[I n, I k] w (DyErr 3 w) := by
  have HK := Lib.hid hk; clear hk
  go_enter Tryd.func49, Tryd.ntmps49
  go_wp2_with (go_at_call 65; refine (isGrid_f _ _ HK.out).mono ?_; rintro e w' ⟨rfl, rfl⟩)
  exact bodyPost_ret (v := .tuple #[dv false none 0 0 0, .iface 46 (I 3)]) (by simp [results, Tryd.results49, go_sem]) rfl ⟨rfl, Ext.alloc _ _⟩

end Go.Proofs.YtgmmcfnahfcadaaDoor
