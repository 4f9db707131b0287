/- Numbers as structs: normal. -/
import Derived.Test.YtcdkkohklhmpgaaGreatDoorMnati
import Derived.Test.YtcdkkohklhmpgaaGreatDoorMbig
namespace Go.Proofs.YtcdkkohklhmpgaaGreatDoor

/-! ### Dy -/
section
open Go.RowKit

abbrev dv (neg : Bool) (A : Option Addr) (n c : Nat) (den : Int) : Value := .agg #[.bool neg, .slice A n c, I den]
/-- What a function on numbers returns: new memory that reads as d. -/
def DyRes (d : DV) (w : World) (e : Ending) (w' : World) : Prop := ∃ A c, e = .returned (dv d.neg A (len d.m) c d.den) ∧ On w' w.heap.size A (len d.m) c (dg d.m) ∧ Ext w w'
theorem DyRes.zero {w w' : World} (h : Ext w w') : DyRes DV.zero w (.returned (dv false none 0 0 0)) w' :=
  ⟨none, 0, by show _ = Ending.returned (dv false none (len 0) 0 0); rw [len_zero], by show On _ _ _ (len 0) 0 _; rw [len_zero]; exact On.nil _ _ _, h⟩

theorem DyRes.of {d : DV} {neg : Bool} {x t c b : Nat} {A : Option Addr} {w w' : World} (hd : d = ⟨neg, x, t⟩) (hr : On w' b A (len x) c (dg x)) (hb : w.heap.size ≤ b) (hx : Ext w w') : DyRes d w (.returned (dv neg A (len x) c t)) w' := by
  subst hd; exact ⟨A, c, rfl, hr.mono hb, hx⟩
theorem fr_set (w : World) (g i : Nat) (u : Value) : w.grownBy (w.setCell ⟨g, i, none⟩ u) (some g) :=
  ⟨rfl, rfl, rfl, by simp, fun k _ hk => Below.heap_setCell w _ u k (fun e => hk (by simp [e]))⟩
theorem Rd.set {w : World} {A : Option Addr} {n g : Nat} {f : Nat → Nat} (h : Rd w A n f) (hne : ∀ a, A = some a → a.block ≠ g) (i : Nat) (u : Value) : Rd (w.setCell ⟨g, i, none⟩ u) A n f := h.fr (fr_set w g i u) hne
theorem On.ne {w : World} {base n c g : Nat} {A : Option Addr} {f : Nat → Nat} (h : On w base A n c f) (hg : g < base) : ∀ a, A = some a → a.block ≠ g := by
  rintro a rfl
  obtain ⟨e, _⟩ | ⟨g', e, hr⟩ := h.cases
  · cases e
  · injection e with e; subst e; have := hr.lt.1; show g' ≠ g; omega

theorem On.base1 {w w0 : World} {o : Obj} {n c : Nat} {A : Option Addr} {f : Nat → Nat} (h : On w (w0.alloc o).heap.size A n c f) : On w (w0.heap.size + 1) A n c f := by
  rw [show (w0.alloc o).heap.size = w0.heap.size + 1 by simp] at h; exact h
theorem On.set {w : World} {b n c g : Nat} {A : Option Addr} {f : Nat → Nat} (h : On w b A n c f) (hg : g < b) (i : Nat) (u : Value) : On (w.setCell ⟨g, i, none⟩ u) b A n c f := by
  refine World.ownsRow.kept h (fr_set w g i u) ?_
  obtain ⟨rfl, _⟩ | ⟨g', rfl, hr⟩ := h.cases
  · exact .inl rfl
  · refine .inr ?_
    have := hr.lt.1
    simp [Value.ownBlock]; omega

def nrmI (neg : Bool) (m : Nat) (den : Int) : DV := if den < 0 then mkD neg (m * 2 ^ (-den).toNat) 0 else mkD neg m den.toNat
theorem nrmI_neg {neg : Bool} {m : Nat} {k : Nat} (h : 0 < k) : nrmI neg m (-(k : Int)) = mkD neg (m * 2 ^ k) 0 := by
  unfold nrmI; rw [if_pos (by omega)]; simp
theorem nrmI_nat {neg : Bool} {m : Nat} {k : Nat} : nrmI neg m (k : Int) = mkD neg m k := by
  unfold nrmI; rw [if_neg (by omega)]; simp
theorem nrmI_zero {neg : Bool} {den : Int} : nrmI neg 0 den = DV.zero := by
  unfold nrmI mkD
  split
  · rw [if_pos (by decide), Nat.zero_mul, nrm_zero]
  · split
    · rw [nrm_zero]
    · rw [Nat.zero_div, nrm_zero]
theorem nrm0 {neg : Bool} {m : Nat} (h : m ≠ 0) : nrm neg m 0 = ⟨neg, m, 0⟩ := by rw [nrm_pos _ _ h]; simp [hv]

set_option maxRecDepth 100000 in
set_option maxHeartbeats 1000000 in
theorem normal_mid (neg : Bool) (A : Option Addr) (m ca k : Nat) (w : World) (hT : Tabs w) (ha : Rd w A (len m) (dg m)) (oa : SlOk A (len m) ca) (hL : len m ≤ 33554432) (hk : k ≤ 65536) :
    Calls Tryz.prog 151 #[.bool neg, .slice A (len m) ca, I k] w (DyRes (mkD neg m k) w) := by
  rw [mkD_small hk]
  have HA := Lib.hid ha; clear ha
  have OA := Lib.hid oa; clear oa
  have HT := Lib.hid hT; clear hT
  by_cases hm : m = 0
  · subst hm
    rw [nrm_zero]
    rw [len_zero]
    clear hL
    go_enter Tryz.func151, Tryz.ntmps151
    go_wp2
    exact bodyPost_ret (v := dv false none 0 0 0) (by simp [results, Tryz.results151, go_sem]) rfl (DyRes.zero (Ext.alloc _ _))
  · rw [nrm_pos _ _ hm]
    have HM := Lib.hid hm
    have hlp := Lib.hid (hv_div_pos (k := k) hm)
    have hle := hv_le m k
    have h0 : len m ≠ 0 := fun e => hm (len_eq_zero.1 e)
    have hl0 : ((len m : Int) == 0) = false := by simp; omega
    clear hm h0
    go_enter Tryz.func151, Tryz.ntmps151
    go_wp2_with (go_at_call 206; refine (trailingZeros_any A m ca _ (HT.out.ext (Ext.alloc _ _)) (HA.out.ext (Ext.alloc _ _)) HM.out (by omega)).mono ?_; rintro e w1 ⟨T, rfl, hz, hTl, rfl⟩)
    · have e : hv m k = k := by rw [isTz_hv hz]; omega
      rw [e] at hlp
      obtain ⟨t, ht⟩ : ∃ t, k - k = t := ⟨_, rfl⟩
      have et : (k : Int) - (k : Int) = (t : Int) := by omega
      have HE : Hid ((⟨neg, m / 2 ^ hv m k, k - hv m k⟩ : DV) = ⟨neg, m / 2 ^ k, t⟩) := by
        show _ = _
        rw [e, ht]
      clear e ht hz hle
      refine (shiftRight_any A m k ca _ (HA.out.ext (Ext.alloc _ _)) OA.out (by omega) (by omega)).mono ?_
      rintro e w2 ⟨A1, c1, rfl, hon, hx⟩
      have hON := Lib.hid (On.base1 hon)
      obtain ⟨hc, hf⟩ := hx.old
      have hXX : Hid (Ext w w2) := (Ext.alloc _ _).trans hx
      clear hon hx
      go_wp2
      exact bodyPost_ret (v := dv neg A1 (len (m / 2 ^ k)) c1 t) (by simp [results, Tryz.results151, go_sem, hc]) rfl (DyRes.of (b := w.heap.size + 1) HE.out (by repeat (first | exact hON.out | refine On.set ?_ (by omega) _ _)) (by omega) (by repeat (first | exact hXX.out | refine Ext.set ?_ (Nat.le_refl _) _)))
    · have e : hv m k = T := by rw [isTz_hv hz]; omega
      rw [e] at hlp
      obtain ⟨t, ht⟩ : ∃ t, k - T = t := ⟨_, rfl⟩
      have et : (k : Int) - (T : Int) = (t : Int) := by omega
      have HE : Hid ((⟨neg, m / 2 ^ hv m k, k - hv m k⟩ : DV) = ⟨neg, m / 2 ^ T, t⟩) := by
        show _ = _
        rw [e, ht]
      clear e ht hz hle
      refine (shiftRight_any A m T ca _ (HA.out.ext (Ext.alloc _ _)) OA.out (by omega) (by omega)).mono ?_
      rintro e w2 ⟨A1, c1, rfl, hon, hx⟩
      have hON := Lib.hid (On.base1 hon)
      obtain ⟨hc, hf⟩ := hx.old
      have hXX : Hid (Ext w w2) := (Ext.alloc _ _).trans hx
      clear hon hx
      go_wp2
      exact bodyPost_ret (v := dv neg A1 (len (m / 2 ^ T)) c1 t) (by simp [results, Tryz.results151, go_sem, hc]) rfl (DyRes.of (b := w.heap.size + 1) HE.out (by repeat (first | exact hON.out | refine On.set ?_ (by omega) _ _)) (by omega) (by repeat (first | exact hXX.out | refine Ext.set ?_ (Nat.le_refl _) _)))
end

/-! ### Dyb -/
section
open Go.RowKit

set_option maxRecDepth 100000 in
set_option maxHeartbeats 1000000 in
theorem normal_big (neg : Bool) (A : Option Addr) (m ca k : Nat) (w : World) (hT : Tabs w) (ha : Rd w A (len m) (dg m)) (oa : SlOk A (len m) ca) (hL : len m ≤ 33554432) (hk : 65536 < k) (hk2 : k ≤ 1048576) :
    Calls Tryz.prog 151 #[.bool neg, .slice A (len m) ca, I k] w (DyRes (mkD neg m k) w) := by
  rw [mkD_big hk]
  have HA := Lib.hid ha; clear ha
  have OA := Lib.hid oa; clear oa
  have HT := Lib.hid hT; clear hT
  obtain ⟨c, hc'⟩ : ∃ c, k - 65536 = c := ⟨_, rfl⟩
  have ec : (k : Int) - 65536 = (c : Int) := by omega
  have hcp : 0 < c := by omega
  have hcl : c ≤ 1048576 := by omega
  rw [hc']
  clear hc'
  have hl1 : len (m / 2 ^ c) ≤ 33554432 := Nat.le_trans (len_mono (Nat.div_le_self _ _)) hL
  obtain ⟨x, hx⟩ : ∃ x, m / 2 ^ c = x := ⟨_, rfl⟩
  have HX := Lib.hid hx
  rw [hx] at hl1
  rw [hx]
  clear hx
  by_cases hm : x = 0
  · subst hm
    rw [nrm_zero]
    have HZ := Lib.hid HX.out
    go_enter Tryz.func151, Tryz.ntmps151
    go_wp2_with (go_at_call 158; refine (shiftRight_any A m c ca _ (HA.out.ext (Ext.alloc _ _)) OA.out (by omega) (by omega)).mono ?_; rintro e w1 ⟨A1, c1, rfl, hon, hx⟩; rw [HX.out, len_zero]; clear hon; obtain ⟨hc, hf⟩ := hx.old; have HXX := Lib.hid hx; clear hx)
    exact bodyPost_ret (v := dv false none 0 0 0) (by simp [results, Tryz.results151, go_sem, hc]) rfl (DyRes.zero (by repeat (first | exact (Ext.alloc _ _).trans HXX.out | refine Ext.set ?_ (Nat.le_refl _) _)))
  · rw [nrm_pos _ _ hm]
    have HM := Lib.hid hm
    have hlp := Lib.hid (hv_div_pos (k := 65536) hm)
    have hle := hv_le x 65536
    have h0 : len x ≠ 0 := fun e => hm (len_eq_zero.1 e)
    have hl0 : ((len x : Int) == 0) = false := by simp; omega
    clear hm h0
    go_enter Tryz.func151, Tryz.ntmps151
    go_wp2_with (go_at_call 158; refine (shiftRight_any A m c ca _ (HA.out.ext (Ext.alloc _ _)) OA.out (by omega) (by omega)).mono ?_; rintro e w1 ⟨A0, c0, rfl, hon0, hx0⟩; rw [HX.out] at hon0; rw [HX.out]; have HO := Lib.hid hon0; have HE0 := Lib.hid hx0; clear hon0; obtain ⟨hc0, hf0⟩ := hx0.old; have hz0 : w.heap.size < w1.heap.size := (by have := HE0.out.size; simp at this; omega); clear hx0)
    refine (trailingZeros_any A0 x c0 _ (HT.out.ext ((Ext.alloc _ _).trans HE0.out)) HO.out.rd HM.out (by omega)).mono ?_
    rintro e w1' ⟨T, rfl, hz, hTl, rfl⟩
    go_wp2_with fail
    · obtain ⟨j, hj⟩ : ∃ j : Nat, 65536 = j := ⟨_, rfl⟩
      have e : hv x 65536 = j := by rw [isTz_hv hz]; omega
      have ej : (65536 : Int) = (j : Int) := by omega
      have hjl : j ≤ 65536 := by omega
      have HE : Hid ((⟨neg, x / 2 ^ hv x 65536, 65536 - hv x 65536⟩ : DV) = ⟨neg, x / 2 ^ j, 0⟩) := by
        show DV.mk _ _ _ = _
        rw [e, show 65536 - j = 0 by omega]
      clear e hz hle
      rw [ej]
      clear ej hj
      refine (shiftRight_any A0 x j c0 _ HO.out.rd HO.out.ok (by omega) (by omega)).mono ?_
      rintro e w2 ⟨A1, c1, rfl, hon, hx⟩
      have hON := Lib.hid hon
      obtain ⟨hc, hf⟩ := hx.old
      have hXX : Hid (Ext w w2) := ((Ext.alloc _ _).trans HE0.out).trans hx
      clear hon hx
      go_wp2
      exact bodyPost_ret (v := dv neg A1 (len (x / 2 ^ j)) c1 0) (by simp [results, Tryz.results151, go_sem, hc, hc0, hz0]) rfl (DyRes.of (b := w1.heap.size) HE.out (by repeat (first | exact hON.out | refine On.set ?_ hz0 _ _)) (by omega) (by repeat (first | exact hXX.out | refine Ext.set ?_ (Nat.le_refl _) _)))
    · have e : hv x 65536 = T := by rw [isTz_hv hz]; omega
      obtain ⟨t, ht⟩ : ∃ t, 65536 - T = t := ⟨_, rfl⟩
      have et : 65536 - (T : Int) = (t : Int) := by omega
      have HE : Hid ((⟨neg, x / 2 ^ hv x 65536, 65536 - hv x 65536⟩ : DV) = ⟨neg, x / 2 ^ T, t⟩) := by
        show _ = _
        rw [e, ht]
      clear e ht hz hle
      refine (shiftRight_any A0 x T c0 _ HO.out.rd HO.out.ok (by omega) (by omega)).mono ?_
      rintro e w2 ⟨A1, c1, rfl, hon, hx⟩
      have hON := Lib.hid hon
      obtain ⟨hc, hf⟩ := hx.old
      have hXX : Hid (Ext w w2) := ((Ext.alloc _ _).trans HE0.out).trans hx
      clear hon hx
      go_wp2
      exact bodyPost_ret (v := dv neg A1 (len (x / 2 ^ T)) c1 t) (by simp [results, Tryz.results151, go_sem, hc, hc0, hz0]) rfl (DyRes.of (b := w1.heap.size) HE.out (by repeat (first | exact hON.out | refine On.set ?_ hz0 _ _)) (by omega) (by repeat (first | exact hXX.out | refine Ext.set ?_ (Nat.le_refl _) _)))

set_option maxRecDepth 100000 in
set_option maxHeartbeats 1000000 in
theorem normal_neg (neg : Bool) (A : Option Addr) (m ca k : Nat) (w : World) (ha : Rd w A (len m) (dg m)) (hL : len m ≤ 33554432) (hk : 0 < k) (hk2 : k ≤ 1048576) :
    Calls Tryz.prog 151 #[.bool neg, .slice A (len m) ca, I (-(k : Int))] w (DyRes (mkD neg (m * 2 ^ k) 0) w) := by
  rw [mkD_small (by decide)]
  have HA := Lib.hid ha; clear ha
  by_cases hm : m = 0
  · subst hm
    rw [Nat.zero_mul, nrm_zero, len_zero]
    clear hL
    go_enter Tryz.func151, Tryz.ntmps151
    go_wp2
    exact bodyPost_ret (v := dv false none 0 0 0) (by simp [results, Tryz.results151, go_sem]) rfl (DyRes.zero (Ext.alloc _ _))
  · rw [nrm0 (by have := Nat.mul_pos (show 0 < m by omega) (p2_pos k); omega)]
    have h0 : len m ≠ 0 := fun e => hm (len_eq_zero.1 e)
    have hl0 : ((len m : Int) == 0) = false := by simp; omega
    clear hm h0
    go_enter Tryz.func151, Tryz.ntmps151
    go_wp2_with (go_at_call 180; refine (shiftLeft_any A m k ca _ (HA.out.ext (Ext.alloc _ _)) (by omega) (by omega)).mono ?_; rintro e w2 ⟨A1, c1, rfl, hon, hx⟩; obtain ⟨hc, hf⟩ := hx.old; have HO := Lib.hid hon; have HX := Lib.hid hx; clear hon hx)
    have HON := Lib.hid (On.base1 HO.out)
    exact bodyPost_ret (v := dv neg A1 (len (m * 2 ^ k)) c1 0) (by simp [results, Tryz.results151, go_sem, hc]) rfl (DyRes.of (b := w.heap.size + 1) rfl (by repeat (first | exact HON.out | refine On.set ?_ (by omega) _ _)) (by omega) (by repeat (first | exact (Ext.alloc _ _).trans HX.out | refine Ext.set ?_ (Nat.le_refl _) _)))

theorem normal_any (neg : Bool) (A : Option Addr) (m ca : Nat) (den : Int) (w : World) (hT : Tabs w) (ha : Rd w A (len m) (dg m)) (oa : SlOk A (len m) ca) (hL : len m ≤ 33554432) (hk : -1048576 ≤ den) (hk2 : den ≤ 1048576) :
    Calls Tryz.prog 151 #[.bool neg, .slice A (len m) ca, I den] w (DyRes (nrmI neg m den) w) := by
  by_cases h : den < 0
  · obtain ⟨k, rfl⟩ : ∃ k : Nat, den = -(k : Int) := ⟨(-den).toNat, by omega⟩
    rw [nrmI_neg (by omega)]
    exact normal_neg neg A m ca k w ha hL (by omega) (by omega)
  · obtain ⟨k, rfl⟩ : ∃ k : Nat, den = (k : Int) := ⟨den.toNat, by omega⟩
    rw [nrmI_nat]
    rcases Nat.lt_or_ge 65536 k with h1 | h1
    · exact normal_big neg A m ca k w hT ha oa hL h1 (by omega)
    · exact normal_mid neg A m ca k w hT ha oa hL h1
end

/-! ### Dyc -/
section
open Go.RowKit

def vld (neg : Bool) (n : Nat) (f : Nat → Nat) (den : Int) : Bool :=
  if n = 0 then !neg && decide (den = 0) else decide (f (n - 1) ≠ 0) && decide (0 ≤ den) && decide (den ≤ 65536) && (decide (den = 0) || decide (f 0 % 2 = 1))
theorem vld_zero (neg : Bool) (f : Nat → Nat) (den : Int) : vld neg 0 f den = (!neg && decide (den = 0)) := by unfold vld; rw [if_pos rfl]
theorem vld_succ (neg : Bool) (n : Nat) (f : Nat → Nat) (den : Int) : vld neg (n + 1) f den = (decide (f n ≠ 0) && decide (0 ≤ den) && decide (den ≤ 65536) && (decide (den = 0) || decide (f 0 % 2 = 1))) := by unfold vld; rw [if_neg (by omega)]; rfl

set_option maxHeartbeats 400000 in
theorem isGrid_t (k : Int) (w : World) (h0 : 0 ≤ k) (h1 : k ≤ 65536) : Calls Tryz.prog 157 #[I k] w fun e w' => e = .returned (.bool true) ∧ w = w' := by
  go_enter Tryz.func157, Tryz.ntmps157
  go_wp2
  go_ret
  exact ⟨rfl, rfl⟩
set_option maxHeartbeats 400000 in
theorem isGrid_f (k : Int) (w : World) (h : k < 0 ∨ 65536 < k) : Calls Tryz.prog 157 #[I k] w fun e w' => e = .returned (.bool false) ∧ w = w' := by
  rcases h with h | h
  · have h1 : ¬ 0 ≤ k := by omega
    go_enter Tryz.func157, Tryz.ntmps157
    go_wp2
    go_ret
    exact ⟨rfl, rfl⟩
  · have h1 : ¬ k ≤ 65536 := by omega
    have h2 : 0 ≤ k := by omega
    go_enter Tryz.func157, Tryz.ntmps157
    go_wp2
    go_ret
    exact ⟨rfl, rfl⟩

def VldRes (b : Bool) (w : World) (e : Ending) (w' : World) : Prop := e = .returned (.bool b) ∧ Ext w w'
set_option maxRecDepth 100000 in
set_option maxHeartbeats 1000000 in
theorem valid_any (neg : Bool) (A : Option Addr) (n c : Nat) (den : Int) (f : Nat → Nat) (w : World) (hr : Rd w A n f) (hb : ∀ i, i < n → f i < 4294967296) (hn : n ≤ 1073741824) :
    Calls Tryz.prog 178 #[dv neg A n c den] w (VldRes (vld neg n f den) w) := by
  have HR := Lib.hid hr; clear hr
  cases n with
  | zero =>
    rw [vld_zero]
    cases neg with
    | true =>
      go_enter Tryz.func178, Tryz.ntmps178
      go_wp2
      go_ret
      exact ⟨by simp, Ext.alloc _ _⟩
    | false =>
      by_cases h : den = 0
      · subst h
        go_enter Tryz.func178, Tryz.ntmps178
        go_wp2
        go_ret
        exact ⟨by simp, Ext.alloc _ _⟩
      · have h1 : (den == 0) = false := by simpa using h
        have HV : Hid ((!false && decide (den = 0)) = false) := by simp [h, Hid]
        clear h
        rw [HV.out]
        go_enter Tryz.func178, Tryz.ntmps178
        go_wp2
        go_ret
        exact ⟨by simp, Ext.alloc _ _⟩
  | succ k =>
    rw [vld_succ]
    obtain ⟨b, o, rfl, hbw, hc⟩ := HR.out (by omega)
    have c1 := hc k (by omega)
    have c0 := hc 0 (by omega)
    rw [Nat.add_zero] at c0
    have hx := hb k (by omega)
    have hy := hb 0 (by omega)
    clear hc hb HR
    generalize f k = x at *
    generalize f 0 = y at *
    have hbn : b ≠ w.heap.size := by omega
    have hbl : b < w.heap.size + 1 := by omega
    by_cases h0 : x = 0
    · subst h0
      go_enter Tryz.func178, Tryz.ntmps178
      go_wp2
      go_ret
      exact ⟨by simp, Ext.alloc _ _⟩
    · have h1 : ((x : Int) == 0) = false := by simp; omega
      by_cases hg : 0 ≤ den ∧ den ≤ 65536
      · obtain ⟨g0, g1⟩ := hg
        by_cases hd : den = 0
        · subst hd
          have HV : Hid ((decide (x ≠ 0) && decide ((0 : Int) ≤ 0) && decide ((0 : Int) ≤ 65536) && (decide ((0 : Int) = 0) || decide (y % 2 = 1))) = true) := by simp [h0, Hid]
          rw [HV.out]
          clear HV h0
          go_enter Tryz.func178, Tryz.ntmps178
          go_wp2_with (go_at_call 157; refine (isGrid_t _ _ (by omega) (by omega)).mono ?_; rintro e w' ⟨rfl, rfl⟩)
          go_ret
          exact ⟨by simp, Ext.alloc _ _⟩
        · have hd1 : (den == 0) = false := by simpa using hd
          by_cases hy1 : y % 2 = 1
          · have hy2 : (y : Int) % 2 = 1 := by omega
            have HV : Hid ((decide (x ≠ 0) && decide (0 ≤ den) && decide (den ≤ 65536) && (decide (den = 0) || decide (y % 2 = 1))) = true) := by simp [h0, Hid, g0, g1, hy1]
            rw [HV.out]
            clear HV h0 hd hy1
            go_enter Tryz.func178, Tryz.ntmps178
            go_wp2_with (go_at_call 157; refine (isGrid_t _ _ (by omega) (by omega)).mono ?_; rintro e w' ⟨rfl, rfl⟩)
            go_ret
            exact ⟨by simp, Ext.alloc _ _⟩
          · have hy2 : (y : Int) % 2 = 0 := by omega
            have HV : Hid ((decide (x ≠ 0) && decide (0 ≤ den) && decide (den ≤ 65536) && (decide (den = 0) || decide (y % 2 = 1))) = false) := by simp [Hid, hy1, hd]
            rw [HV.out]
            clear HV h0 hd hy1
            go_enter Tryz.func178, Tryz.ntmps178
            go_wp2_with (go_at_call 157; refine (isGrid_t _ _ (by omega) (by omega)).mono ?_; rintro e w' ⟨rfl, rfl⟩)
            go_ret
            exact ⟨by simp, Ext.alloc _ _⟩
      · have hg' : den < 0 ∨ 65536 < den := by omega
        have HV : Hid ((decide (x ≠ 0) && decide (0 ≤ den) && decide (den ≤ 65536) && (decide (den = 0) || decide (y % 2 = 1))) = false) := by
          show _ = _
          rcases hg' with h | h
          · simp [show ¬ 0 ≤ den by omega]
          · simp [show ¬ den ≤ 65536 by omega]
        have HG := Lib.hid hg'
        rw [HV.out]
        clear HV h0 hg hg'
        go_enter Tryz.func178, Tryz.ntmps178
        go_wp2_with (go_at_call 157; refine (isGrid_f _ _ HG.out).mono ?_; rintro e w' ⟨rfl, rfl⟩)
        go_ret
        exact ⟨by simp, Ext.alloc _ _⟩

def NumRes (v : Value) (w : World) (e : Ending) (w' : World) : Prop := e = .returned v ∧ Ext w w'
set_option maxRecDepth 100000 in
set_option maxHeartbeats 1000000 in
theorem number_t (neg : Bool) (A : Option Addr) (n c : Nat) (den : Int) (f : Nat → Nat) (w : World) (hr : Rd w A n f) (hb : ∀ i, i < n → f i < 4294967296) (hn : n ≤ 1073741824) (hv : vld neg n f den = true) :
    Calls Tryz.prog 106 #[dv neg A n c den] w (NumRes (dv neg A n c den) w) := by
  have HV : Hid (∀ w', Ext w w' → Calls Tryz.prog 178 #[dv neg A n c den] w' (VldRes true w')) := fun w' e => hv ▸ valid_any neg A n c den f w' (hr.ext e) hb hn
  clear hr hb hv hn
  go_enter Tryz.func106, Tryz.ntmps106
  go_wp2_with (go_at_call 178; refine (HV.out _ ((Ext.alloc _ _).trans (Ext.alloc _ _))).mono ?_; rintro e w1 ⟨rfl, hx⟩; obtain ⟨hc, hf⟩ := hx.old; have HX := Lib.hid hx; clear hx)
  exact bodyPost_ret (v := dv neg A n c den) (by simp [results, Tryz.results106, go_sem, hc]) rfl ⟨rfl, by repeat (first | exact ((Ext.alloc _ _).trans (Ext.alloc _ _)).trans HX.out | refine Ext.set ?_ (by simp) _)⟩
set_option maxRecDepth 100000 in
set_option maxHeartbeats 1000000 in
theorem number_f (neg : Bool) (A : Option Addr) (n c : Nat) (den : Int) (f : Nat → Nat) (w : World) (hr : Rd w A n f) (hb : ∀ i, i < n → f i < 4294967296) (hn : n ≤ 1073741824) (hv : vld neg n f den = false) :
    Calls Tryz.prog 106 #[dv neg A n c den] w (NumRes (dv false none 0 0 0) w) := by
  have HV : Hid (∀ w', Ext w w' → Calls Tryz.prog 178 #[dv neg A n c den] w' (VldRes false w')) := fun w' e => hv ▸ valid_any neg A n c den f w' (hr.ext e) hb hn
  clear hr hb hv hn
  go_enter Tryz.func106, Tryz.ntmps106
  go_wp2_with (go_at_call 178; refine (HV.out _ ((Ext.alloc _ _).trans (Ext.alloc _ _))).mono ?_; rintro e w1 ⟨rfl, hx⟩; obtain ⟨hc, hf⟩ := hx.old; have HX := Lib.hid hx; clear hx)
  exact bodyPost_ret (v := dv false none 0 0 0) (by simp [results, Tryz.results106, go_sem, hc]) rfl ⟨rfl, by repeat (first | exact ((Ext.alloc _ _).trans (Ext.alloc _ _)).trans HX.out | refine Ext.set ?_ (by simp) _)⟩
end

/-! ### Dyd -/
section
open Go.RowKit

set_option maxRecDepth 100000 in
set_option maxHeartbeats 1000000 in
theorem rvalid_any (neg : Bool) (A : Option Addr) (n c : Nat) (den : Int) (f : Nat → Nat) (w : World) (hr : Rd w A n f) (hb : ∀ i, i < n → f i < 4294967296) (hn : n ≤ 1073741824) :
    Calls Tryz.prog 189 #[dv neg A n c den] w (VldRes (vld neg n f den) w) := by
  have HR := Lib.hid hr; clear hr
  cases n with
  | zero =>
    rw [vld_zero]
    cases neg with
    | true =>
      go_enter Tryz.func189, Tryz.ntmps189
      go_wp2
      go_ret
      exact ⟨by simp, Ext.alloc _ _⟩
    | false =>
      by_cases h : den = 0
      · subst h
        go_enter Tryz.func189, Tryz.ntmps189
        go_wp2
        go_ret
        exact ⟨by simp, Ext.alloc _ _⟩
      · have h1 : (den == 0) = false := by simpa using h
        have HV : Hid ((!false && decide (den = 0)) = false) := by simp [h, Hid]
        clear h
        rw [HV.out]
        go_enter Tryz.func189, Tryz.ntmps189
        go_wp2
        go_ret
        exact ⟨by simp, Ext.alloc _ _⟩
  | succ k =>
    rw [vld_succ]
    obtain ⟨b, o, rfl, hbw, hc⟩ := HR.out (by omega)
    have c1 := hc k (by omega)
    have c0 := hc 0 (by omega)
    rw [Nat.add_zero] at c0
    have hx := hb k (by omega)
    have hy := hb 0 (by omega)
    clear hc hb HR
    generalize f k = x at *
    generalize f 0 = y at *
    have hbn : b ≠ w.heap.size := by omega
    have hbl : b < w.heap.size + 1 := by omega
    by_cases h0 : x = 0
    · subst h0
      go_enter Tryz.func189, Tryz.ntmps189
      go_wp2
      go_ret
      exact ⟨by simp, Ext.alloc _ _⟩
    · have h1 : ((x : Int) == 0) = false := by simp; omega
      have h1n : ((x : Int) != 0) = true := by simp; omega
      by_cases hg : 0 ≤ den ∧ den ≤ 65536
      · obtain ⟨g0, g1⟩ := hg
        by_cases hd : den = 0
        · subst hd
          have HV : Hid ((decide (x ≠ 0) && decide ((0 : Int) ≤ 0) && decide ((0 : Int) ≤ 65536) && (decide ((0 : Int) = 0) || decide (y % 2 = 1))) = true) := by simp [h0, Hid]
          rw [HV.out]
          clear HV h0
          go_enter Tryz.func189, Tryz.ntmps189
          go_wp2
          go_ret
          exact ⟨by simp, Ext.alloc _ _⟩
        · have hd1 : (den == 0) = false := by simpa using hd
          by_cases hy1 : y % 2 = 1
          · have hy2 : (y : Int) % 2 = 1 := by omega
            have HV : Hid ((decide (x ≠ 0) && decide (0 ≤ den) && decide (den ≤ 65536) && (decide (den = 0) || decide (y % 2 = 1))) = true) := by simp [h0, Hid, g0, g1, hy1]
            rw [HV.out]
            clear HV h0 hd hy1
            go_enter Tryz.func189, Tryz.ntmps189
            go_wp2
            go_ret
            exact ⟨by simp, Ext.alloc _ _⟩
          · have hy2 : (y : Int) % 2 = 0 := by omega
            have HV : Hid ((decide (x ≠ 0) && decide (0 ≤ den) && decide (den ≤ 65536) && (decide (den = 0) || decide (y % 2 = 1))) = false) := by simp [Hid, hy1, hd]
            rw [HV.out]
            clear HV h0 hd hy1
            go_enter Tryz.func189, Tryz.ntmps189
            go_wp2
            go_ret
            exact ⟨by simp, Ext.alloc _ _⟩
      · have hg' : den < 0 ∨ 65536 < den := by omega
        have HV : Hid ((decide (x ≠ 0) && decide (0 ≤ den) && decide (den ≤ 65536) && (decide (den = 0) || decide (y % 2 = 1))) = false) := by
          show _ = _
          rcases hg' with h | h
          · simp [show ¬ 0 ≤ den by omega]
          · simp [show ¬ den ≤ 65536 by omega]
        rw [HV.out]
        clear HV h0 hg
        rcases hg' with g | g
        · have g2 : ¬ 0 ≤ den := by omega
          go_enter Tryz.func189, Tryz.ntmps189
          go_wp2
          go_ret
          exact ⟨by simp, Ext.alloc _ _⟩
        · have g2 : ¬ den ≤ 65536 := by omega
          have g3 : 0 ≤ den := by omega
          go_enter Tryz.func189, Tryz.ntmps189
          go_wp2
          go_ret
          exact ⟨by simp, Ext.alloc _ _⟩

set_option maxRecDepth 100000 in
set_option maxHeartbeats 1000000 in
theorem norm_t (neg : Bool) (A : Option Addr) (n c : Nat) (den : Int) (f : Nat → Nat) (w : World) (hr : Rd w A n f) (hb : ∀ i, i < n → f i < 4294967296) (hn : n ≤ 1073741824) (hv : vld neg n f den = true) :
    Calls Tryz.prog 119 #[dv neg A n c den] w (NumRes (dv neg A n c den) w) := by
  have HV : Hid (∀ w', Ext w w' → Calls Tryz.prog 189 #[dv neg A n c den] w' (VldRes true w')) := fun w' e => hv ▸ rvalid_any neg A n c den f w' (hr.ext e) hb hn
  clear hr hb hv hn
  go_enter Tryz.func119, Tryz.ntmps119
  go_wp2_with (go_at_call 189; refine (HV.out _ ((Ext.alloc _ _).trans (Ext.alloc _ _))).mono ?_; rintro e w1 ⟨rfl, hx⟩; obtain ⟨hc, hf⟩ := hx.old; have HX := Lib.hid hx; clear hx)
  exact bodyPost_ret (v := dv neg A n c den) (by simp [results, Tryz.results119, go_sem, hc]) rfl ⟨rfl, by repeat (first | exact ((Ext.alloc _ _).trans (Ext.alloc _ _)).trans HX.out | refine Ext.set ?_ (by simp) _)⟩
set_option maxRecDepth 100000 in
set_option maxHeartbeats 1000000 in
theorem norm_f (neg : Bool) (A : Option Addr) (n c : Nat) (den : Int) (f : Nat → Nat) (w : World) (hr : Rd w A n f) (hb : ∀ i, i < n → f i < 4294967296) (hn : n ≤ 1073741824) (hv : vld neg n f den = false) :
    Calls Tryz.prog 119 #[dv neg A n c den] w (NumRes (dv false none 0 0 0) w) := by
  have HV : Hid (∀ w', Ext w w' → Calls Tryz.prog 189 #[dv neg A n c den] w' (VldRes false w')) := fun w' e => hv ▸ rvalid_any neg A n c den f w' (hr.ext e) hb hn
  clear hr hb hv hn
  go_enter Tryz.func119, Tryz.ntmps119
  go_wp2_with (go_at_call 189; refine (HV.out _ ((Ext.alloc _ _).trans (Ext.alloc _ _))).mono ?_; rintro e w1 ⟨rfl, hx⟩; obtain ⟨hc, hf⟩ := hx.old; have HX := Lib.hid hx; clear hx)
  exact bodyPost_ret (v := dv false none 0 0 0) (by simp [results, Tryz.results119, go_sem, hc]) rfl ⟨rfl, by repeat (first | exact ((Ext.alloc _ _).trans (Ext.alloc _ _)).trans HX.out | refine Ext.set ?_ (by simp) _)⟩
end

/-! ### Dye -/
section
open Go.RowKit

/-- The struct of these fields counts as the number d, which lies at A'. -/
structure Dy (w : World) (neg : Bool) (A : Option Addr) (n c : Nat) (den : Int) (d : DV) (A' : Option Addr) (c' : Nat) : Prop where
  rd : Rd w A' (len d.m) (dg d.m)
  sl : SlOk A' (len d.m) c'
  wf : d.ok
  lim : len d.m ≤ 16777216
  num : ∀ w', Ext w w' → Calls Tryz.prog 106 #[dv neg A n c den] w' (NumRes (dv d.neg A' (len d.m) c' d.den) w')
  norm : ∀ w', Ext w w' → Calls Tryz.prog 119 #[dv neg A n c den] w' (NumRes (dv d.neg A' (len d.m) c' d.den) w')
theorem Dy.ext {w w' : World} {neg : Bool} {A A' : Option Addr} {n c c' : Nat} {den : Int} {d : DV} (h : Dy w neg A n c den d A' c') (e : Ext w w') : Dy w' neg A n c den d A' c' :=
  ⟨h.rd.ext e, h.sl, h.wf, h.lim, fun w'' e' => h.num w'' (e.trans e'), fun w'' e' => h.norm w'' (e.trans e')⟩
theorem vld_ok {d : DV} (h : d.ok) : vld d.neg (len d.m) (dg d.m) d.den = true := by
  obtain ⟨h1, h2, h3⟩ := h
  by_cases h0 : d.m = 0
  · obtain ⟨e1, e2⟩ := h1 h0
    rw [h0, len_zero, vld_zero, e1, e2]; rfl
  · have ht := dg_top h0
    unfold vld
    rw [if_neg (fun e => h0 (len_eq_zero.1 e)), dg_zero]
    by_cases hd : d.den = 0
    · simp [ht, hd]
    · have := h3 (by omega)
      simp [ht]
      exact ⟨by omega, .inr (by omega)⟩
theorem Dy.valid {w : World} {d : DV} {A : Option Addr} {c : Nat} (hr : Rd w A (len d.m) (dg d.m)) (ok : SlOk A (len d.m) c) (wf : d.ok) (hl : len d.m ≤ 16777216) : Dy w d.neg A (len d.m) c d.den d A c :=
  ⟨hr, ok, wf, hl, fun w' e => number_t _ _ _ _ _ _ _ (hr.ext e) (wf_dg d.m) (by omega) (vld_ok wf), fun w' e => norm_t _ _ _ _ _ _ _ (hr.ext e) (wf_dg d.m) (by omega) (vld_ok wf)⟩
def nrA (neg : Bool) (n : Nat) (f : Nat → Nat) (den : Int) : DV := if vld neg n f den = true then ⟨neg, valN f n, den.toNat⟩ else DV.zero
theorem zero_len : len DV.zero.m = 0 := len_zero
theorem Dy.any {w : World} {neg : Bool} {A : Option Addr} {n c : Nat} {den : Int} {f : Nat → Nat} (hr : Rd w A n f) (ok : SlOk A n c) (hb : ∀ i, i < n → f i < 4294967296) (hn : n ≤ 16777216) :
    Dy w neg A n c den (nrA neg n f den) (if vld neg n f den = true then A else none) (if vld neg n f den = true then c else 0) := by
  by_cases hv : vld neg n f den = true
  · have e : nrA neg n f den = ⟨neg, valN f n, den.toNat⟩ := by unfold nrA; rw [if_pos hv]
    rw [if_pos hv, if_pos hv, e]
    have hl : len (valN f n) = n := by
      refine len_valN hb (Nat.le_refl _) (fun i h1 h2 => by omega) ?_
      cases n with
      | zero => exact .inl rfl
      | succ k => rw [vld_succ] at hv; simp at hv; exact .inr (by simpa using hv.1.1.1)
    have hd : 0 ≤ den ∧ den ≤ 65536 ∧ (n = 0 → neg = false ∧ den = 0) ∧ (0 < den → f 0 % 2 = 1) := by
      cases n with
      | zero => rw [vld_zero] at hv; simp at hv; exact ⟨by omega, by omega, fun _ => hv, fun h => by omega⟩
      | succ k => rw [vld_succ] at hv; simp at hv; exact ⟨hv.1.1.2, hv.1.2, fun h => by omega, fun h => by omega⟩
    obtain ⟨d0, d1, d2, d3⟩ := hd
    have ed : ((den.toNat : Nat) : Int) = den := by omega
    refine ⟨?_, ?_, ⟨?_, ?_, ?_⟩, ?_, ?_, ?_⟩
    · show Rd w A (len (valN f n)) _
      rw [hl]; exact hr.congr fun i hi => (dg_valN hb hi).symm
    · show SlOk A (len (valN f n)) c
      rw [hl]; exact ok
    · intro h0
      have h0' : valN f n = 0 := h0
      have : n = 0 := by rw [h0', len_zero] at hl; exact hl.symm
      have := d2 this
      exact ⟨this.1, by show den.toNat = 0; omega⟩
    · show den.toNat ≤ 65536; omega
    · intro h0
      have h0' : 0 < den.toNat := h0
      have h1 := d3 (by omega)
      have hn0 : 0 < n := by
        rcases Nat.eq_zero_or_pos n with h | h
        · have := (d2 h).2; omega
        · exact h
      have := dg_valN hb hn0
      rw [dg_zero] at this
      show valN f n % 2 = 1
      omega
    · show len (valN f n) ≤ _
      omega
    · intro w' e'
      show Calls _ _ _ _ (NumRes (dv neg A (len (valN f n)) c ((den.toNat : Nat) : Int)) w')
      rw [hl, ed]; exact number_t _ _ _ _ _ _ _ (hr.ext e') hb (by omega) hv
    · intro w' e'
      show Calls _ _ _ _ (NumRes (dv neg A (len (valN f n)) c ((den.toNat : Nat) : Int)) w')
      rw [hl, ed]; exact norm_t _ _ _ _ _ _ _ (hr.ext e') hb (by omega) hv
  · have hv' : vld neg n f den = false := by simpa using hv
    have e : nrA neg n f den = DV.zero := by unfold nrA; rw [if_neg hv]
    rw [if_neg hv, if_neg hv, e]
    refine ⟨by rw [zero_len]; exact Rd.none_, by rw [zero_len]; exact ⟨Nat.le_refl _, Nat.zero_le _, fun _ => ⟨rfl, rfl⟩⟩, DV.zero_ok, by rw [zero_len]; omega, ?_, ?_⟩
    · intro w' e'
      rw [zero_len]; exact number_f _ _ _ _ _ _ _ (hr.ext e') hb (by omega) hv'
    · intro w' e'
      rw [zero_len]; exact norm_f _ _ _ _ _ _ _ (hr.ext e') hb (by omega) hv'
theorem Dy.zero (w : World) : Dy w false none 0 0 0 DV.zero none 0 := by
  have := Dy.valid (w := w) (d := DV.zero) (A := none) (c := 0) (by rw [zero_len]; exact Rd.none_) (by rw [zero_len]; exact ⟨Nat.le_refl _, Nat.zero_le _, fun _ => ⟨rfl, rfl⟩⟩) DV.zero_ok (by rw [zero_len]; omega)
  rw [zero_len] at this
  exact this
end

end Go.Proofs.YtcdkkohklhmpgaaGreatDoor
