/- Numbers as structs: normal. -/
import Derived.Test.YtkocmdpfknoiaaaGreatDoorMnat
import Derived.Test.YtkocmdpfknoiaaaGreatDoorMbig
import Derived.Deep.DeepCutAuto
import Derived.Deep.DrawnRows
namespace Go.Proofs.YtkocmdpfknoiaaaGreatDoor

/-! ### Mdy -/
section
/-! ### Dy -/
section
open Go.RowKit

abbrev dv (neg : Bool) (A : Option Addr) (n c : Nat) (den : Int) : Value := .agg #[.bool neg, .slice A n c, I den]
/-- What a function on numbers returns: new memory that reads as d. -/
def DyRes (d : DV) (w : World) (e : Ending) (w' : World) : Prop := ∃ A c, e = .returned (dv d.neg A (len d.m) c d.den) ∧ On w' w.heap.size A (len d.m) c (dg d.m) ∧ Ext w w'
theorem DyRes.zero {w w' : World} (h : Ext w w') : DyRes DV.zero w (.returned (dv false none 0 0 0)) w' :=
  ⟨none, 0, by show _ = Ending.returned (dv false none (len 0) 0 0); rw [len_zero], by show On _ _ _ (len 0) 0 _; rw [len_zero]; exact On.nil _ _ _, h⟩

theorem DyRes.of {d : DV} {neg : Bool} {x t c b : Nat} {A : Option Addr} {w w' : World} (hd : d = ⟨neg, x, t⟩) (hr : On w' b A (len x) c (dg x)) (hb : w.heap.size ≤ b) (hx : Ext w w') : DyRes d w (.returned (dv neg A (len x) c t)) w' := by
  subst hd; exact ⟨A, c, rfl, hr.mono hb, hx⟩
theorem fr_set (w : World) (g i : Nat) (u : Value) : w.grownBy (w.setCell ⟨g, i, none⟩ u) (some g) :=
  ⟨rfl, rfl, rfl, by simp, fun k _ hk => Below.heap_setCell w _ u k (fun e => hk (by simp [e]))⟩
theorem Rd.set {w : World} {A : Option Addr} {n g : Nat} {f : Nat → Nat} (h : Rd w A n f) (hne : ∀ a, A = some a → a.block ≠ g) (i : Nat) (u : Value) : Rd (w.setCell ⟨g, i, none⟩ u) A n f := h.fr (fr_set w g i u) hne
theorem On.ne {w : World} {base n c g : Nat} {A : Option Addr} {f : Nat → Nat} (h : On w base A n c f) (hg : g < base) : ∀ a, A = some a → a.block ≠ g := by
  rintro a rfl
  obtain ⟨e, _⟩ | ⟨g', e, hr⟩ := h.cases
  · cases e
  · injection e with e; subst e; have := hr.lt.1; show g' ≠ g; omega

theorem On.base1 {w w0 : World} {o : Obj} {n c : Nat} {A : Option Addr} {f : Nat → Nat} (h : On w (w0.alloc o).heap.size A n c f) : On w (w0.heap.size + 1) A n c f := by
  rw [show (w0.alloc o).heap.size = w0.heap.size + 1 by simp] at h; exact h
theorem On.set {w : World} {b n c g : Nat} {A : Option Addr} {f : Nat → Nat} (h : On w b A n c f) (hg : g < b) (i : Nat) (u : Value) : On (w.setCell ⟨g, i, none⟩ u) b A n c f := by
  refine World.ownsRow.kept h (fr_set w g i u) ?_
  obtain ⟨rfl, _⟩ | ⟨g', rfl, hr⟩ := h.cases
  · exact .inl rfl
  · refine .inr ?_
    have := hr.lt.1
    simp [Value.ownBlock]; omega

def nrmI (neg : Bool) (m : Nat) (den : Int) : DV := if den < 0 then mkD neg (m * 2 ^ (-den).toNat) 0 else mkD neg m den.toNat
theorem nrmI_neg {neg : Bool} {m : Nat} {k : Nat} (h : 0 < k) : nrmI neg m (-(k : Int)) = mkD neg (m * 2 ^ k) 0 := by
  unfold nrmI; rw [if_pos (by omega)]; simp
theorem nrmI_nat {neg : Bool} {m : Nat} {k : Nat} : nrmI neg m (k : Int) = mkD neg m k := by
  unfold nrmI; rw [if_neg (by omega)]; simp
theorem nrmI_zero {neg : Bool} {den : Int} : nrmI neg 0 den = DV.zero := by
  unfold nrmI mkD
  split
  · rw [if_pos (by decide), Nat.zero_mul, nrm_zero]
  · split
    · rw [nrm_zero]
    · rw [Nat.zero_div, nrm_zero]
theorem nrm0 {neg : Bool} {m : Nat} (h : m ≠ 0) : nrm neg m 0 = ⟨neg, m, 0⟩ := by rw [nrm_pos _ _ h]; simp [hv]

set_option maxRecDepth 100000 in
set_option maxHeartbeats 1000000 in
theorem normal_mid (neg : Bool) (A : Option Addr) (m ca k : Nat) (w : World) (hT : Tabs w) (ha : Rd w A (len m) (dg m)) (oa : SlOk A (len m) ca) (hL : len m ≤ 33554432) (hk : k ≤ 65536) :
    Calls Tryz.prog 67 #[.bool neg, .slice A (len m) ca, I k] w (DyRes (mkD neg m k) w) := by
  rw [mkD_small hk]
  have HA := Lib.hid ha; clear ha
  have OA := Lib.hid oa; clear oa
  have HT := Lib.hid hT; clear hT
  by_cases hm : m = 0
  · subst hm
    rw [nrm_zero]
    rw [len_zero]
    clear hL
    go_enter Tryz.func67, Tryz.ntmps67
    go_wp2
    exact bodyPost_ret (v := dv false none 0 0 0) (by simp [results, Tryz.results67, go_sem]) rfl (DyRes.zero (Ext.alloc _ _))
  · rw [nrm_pos _ _ hm]
    have HM := Lib.hid hm
    have hlp := Lib.hid (hv_div_pos (k := k) hm)
    have hle := hv_le m k
    have h0 : len m ≠ 0 := fun e => hm (len_eq_zero.1 e)
    have hl0 : ((len m : Int) == 0) = false := by simp; omega
    clear hm h0
    go_enter Tryz.func67, Tryz.ntmps67
    go_wp2_with (go_at_call 122; refine (trailingZeros_any A m ca _ (HT.out.ext (Ext.alloc _ _)) (HA.out.ext (Ext.alloc _ _)) HM.out (by omega)).mono ?_; rintro e w1 ⟨T, rfl, hz, hTl, rfl⟩)
    · have e : hv m k = k := by rw [isTz_hv hz]; omega
      rw [e] at hlp
      obtain ⟨t, ht⟩ : ∃ t, k - k = t := ⟨_, rfl⟩
      have et : (k : Int) - (k : Int) = (t : Int) := by omega
      have HE : Hid ((⟨neg, m / 2 ^ hv m k, k - hv m k⟩ : DV) = ⟨neg, m / 2 ^ k, t⟩) := by
        show _ = _
        rw [e, ht]
      clear e ht hz hle
      refine (shiftRight_any A m k ca _ (HA.out.ext (Ext.alloc _ _)) OA.out (by omega) (by omega)).mono ?_
      rintro e w2 ⟨A1, c1, rfl, hon, hx⟩
      have hON := Lib.hid (On.base1 hon)
      obtain ⟨hc, hf⟩ := hx.old
      have hXX : Hid (Ext w w2) := (Ext.alloc _ _).trans hx
      clear hon hx
      go_wp2
      exact bodyPost_ret (v := dv neg A1 (len (m / 2 ^ k)) c1 t) (by simp [results, Tryz.results67, go_sem, hc]) rfl (DyRes.of (b := w.heap.size + 1) HE.out (by repeat (first | exact hON.out | refine On.set ?_ (by omega) _ _)) (by omega) (by repeat (first | exact hXX.out | refine Ext.set ?_ (Nat.le_refl _) _)))
    · have e : hv m k = T := by rw [isTz_hv hz]; omega
      rw [e] at hlp
      obtain ⟨t, ht⟩ : ∃ t, k - T = t := ⟨_, rfl⟩
      have et : (k : Int) - (T : Int) = (t : Int) := by omega
      have HE : Hid ((⟨neg, m / 2 ^ hv m k, k - hv m k⟩ : DV) = ⟨neg, m / 2 ^ T, t⟩) := by
        show _ = _
        rw [e, ht]
      clear e ht hz hle
      refine (shiftRight_any A m T ca _ (HA.out.ext (Ext.alloc _ _)) OA.out (by omega) (by omega)).mono ?_
      rintro e w2 ⟨A1, c1, rfl, hon, hx⟩
      have hON := Lib.hid (On.base1 hon)
      obtain ⟨hc, hf⟩ := hx.old
      have hXX : Hid (Ext w w2) := (Ext.alloc _ _).trans hx
      clear hon hx
      go_wp2
      exact bodyPost_ret (v := dv neg A1 (len (m / 2 ^ T)) c1 t) (by simp [results, Tryz.results67, go_sem, hc]) rfl (DyRes.of (b := w.heap.size + 1) HE.out (by repeat (first | exact hON.out | refine On.set ?_ (by omega) _ _)) (by omega) (by repeat (first | exact hXX.out | refine Ext.set ?_ (Nat.le_refl _) _)))
end

/-! ### Dyb -/
section
open Go.RowKit

set_option maxRecDepth 100000 in
set_option maxHeartbeats 1000000 in
theorem normal_big (neg : Bool) (A : Option Addr) (m ca k : Nat) (w : World) (hT : Tabs w) (ha : Rd w A (len m) (dg m)) (oa : SlOk A (len m) ca) (hL : len m ≤ 33554432) (hk : 65536 < k) (hk2 : k ≤ 1048576) :
    Calls Tryz.prog 67 #[.bool neg, .slice A (len m) ca, I k] w (DyRes (mkD neg m k) w) := by
  rw [mkD_big hk]
  have HA := Lib.hid ha; clear ha
  have OA := Lib.hid oa; clear oa
  have HT := Lib.hid hT; clear hT
  obtain ⟨c, hc'⟩ : ∃ c, k - 65536 = c := ⟨_, rfl⟩
  have ec : (k : Int) - 65536 = (c : Int) := by omega
  have hcp : 0 < c := by omega
  have hcl : c ≤ 1048576 := by omega
  rw [hc']
  clear hc'
  have hl1 : len (m / 2 ^ c) ≤ 33554432 := Nat.le_trans (len_mono (Nat.div_le_self _ _)) hL
  obtain ⟨x, hx⟩ : ∃ x, m / 2 ^ c = x := ⟨_, rfl⟩
  have HX := Lib.hid hx
  rw [hx] at hl1
  rw [hx]
  clear hx
  by_cases hm : x = 0
  · subst hm
    rw [nrm_zero]
    have HZ := Lib.hid HX.out
    go_enter Tryz.func67, Tryz.ntmps67
    go_wp2_with (go_at_call 121; refine (shiftRight_any A m c ca _ (HA.out.ext (Ext.alloc _ _)) OA.out (by omega) (by omega)).mono ?_; rintro e w1 ⟨A1, c1, rfl, hon, hx⟩; rw [HX.out, len_zero]; clear hon; obtain ⟨hc, hf⟩ := hx.old; have HXX := Lib.hid hx; clear hx)
    exact bodyPost_ret (v := dv false none 0 0 0) (by simp [results, Tryz.results67, go_sem, hc]) rfl (DyRes.zero (by repeat (first | exact (Ext.alloc _ _).trans HXX.out | refine Ext.set ?_ (Nat.le_refl _) _)))
  · rw [nrm_pos _ _ hm]
    have HM := Lib.hid hm
    have hlp := Lib.hid (hv_div_pos (k := 65536) hm)
    have hle := hv_le x 65536
    have h0 : len x ≠ 0 := fun e => hm (len_eq_zero.1 e)
    have hl0 : ((len x : Int) == 0) = false := by simp; omega
    clear hm h0
    go_enter Tryz.func67, Tryz.ntmps67
    go_wp2_with (go_at_call 121; refine (shiftRight_any A m c ca _ (HA.out.ext (Ext.alloc _ _)) OA.out (by omega) (by omega)).mono ?_; rintro e w1 ⟨A0, c0, rfl, hon0, hx0⟩; rw [HX.out] at hon0; rw [HX.out]; have HO := Lib.hid hon0; have HE0 := Lib.hid hx0; clear hon0; obtain ⟨hc0, hf0⟩ := hx0.old; have hz0 : w.heap.size < w1.heap.size := (by have := HE0.out.size; simp at this; omega); clear hx0)
    refine (trailingZeros_any A0 x c0 _ (HT.out.ext ((Ext.alloc _ _).trans HE0.out)) HO.out.rd HM.out (by omega)).mono ?_
    rintro e w1' ⟨T, rfl, hz, hTl, rfl⟩
    go_wp2_with fail
    · obtain ⟨j, hj⟩ : ∃ j : Nat, 65536 = j := ⟨_, rfl⟩
      have e : hv x 65536 = j := by rw [isTz_hv hz]; omega
      have ej : (65536 : Int) = (j : Int) := by omega
      have hjl : j ≤ 65536 := by omega
      have HE : Hid ((⟨neg, x / 2 ^ hv x 65536, 65536 - hv x 65536⟩ : DV) = ⟨neg, x / 2 ^ j, 0⟩) := by
        show DV.mk _ _ _ = _
        rw [e, show 65536 - j = 0 by omega]
      clear e hz hle
      rw [ej]
      clear ej hj
      refine (shiftRight_any A0 x j c0 _ HO.out.rd HO.out.ok (by omega) (by omega)).mono ?_
      rintro e w2 ⟨A1, c1, rfl, hon, hx⟩
      have hON := Lib.hid hon
      obtain ⟨hc, hf⟩ := hx.old
      have hXX : Hid (Ext w w2) := ((Ext.alloc _ _).trans HE0.out).trans hx
      clear hon hx
      go_wp2
      exact bodyPost_ret (v := dv neg A1 (len (x / 2 ^ j)) c1 0) (by simp [results, Tryz.results67, go_sem, hc, hc0, hz0]) rfl (DyRes.of (b := w1.heap.size) HE.out (by repeat (first | exact hON.out | refine On.set ?_ hz0 _ _)) (by omega) (by repeat (first | exact hXX.out | refine Ext.set ?_ (Nat.le_refl _) _)))
    · have e : hv x 65536 = T := by rw [isTz_hv hz]; omega
      obtain ⟨t, ht⟩ : ∃ t, 65536 - T = t := ⟨_, rfl⟩
      have et : 65536 - (T : Int) = (t : Int) := by omega
      have HE : Hid ((⟨neg, x / 2 ^ hv x 65536, 65536 - hv x 65536⟩ : DV) = ⟨neg, x / 2 ^ T, t⟩) := by
        show _ = _
        rw [e, ht]
      clear e ht hz hle
      refine (shiftRight_any A0 x T c0 _ HO.out.rd HO.out.ok (by omega) (by omega)).mono ?_
      rintro e w2 ⟨A1, c1, rfl, hon, hx⟩
      have hON := Lib.hid hon
      obtain ⟨hc, hf⟩ := hx.old
      have hXX : Hid (Ext w w2) := ((Ext.alloc _ _).trans HE0.out).trans hx
      clear hon hx
      go_wp2
      exact bodyPost_ret (v := dv neg A1 (len (x / 2 ^ T)) c1 t) (by simp [results, Tryz.results67, go_sem, hc, hc0, hz0]) rfl (DyRes.of (b := w1.heap.size) HE.out (by repeat (first | exact hON.out | refine On.set ?_ hz0 _ _)) (by omega) (by repeat (first | exact hXX.out | refine Ext.set ?_ (Nat.le_refl _) _)))

set_option maxRecDepth 100000 in
set_option maxHeartbeats 1000000 in
theorem normal_neg (neg : Bool) (A : Option Addr) (m ca k : Nat) (w : World) (ha : Rd w A (len m) (dg m)) (hL : len m ≤ 33554432) (hk : 0 < k) (hk2 : k ≤ 1048576) :
    Calls Tryz.prog 67 #[.bool neg, .slice A (len m) ca, I (-(k : Int))] w (DyRes (mkD neg (m * 2 ^ k) 0) w) := by
  rw [mkD_small (by decide)]
  have HA := Lib.hid ha; clear ha
  by_cases hm : m = 0
  · subst hm
    rw [Nat.zero_mul, nrm_zero, len_zero]
    clear hL
    go_enter Tryz.func67, Tryz.ntmps67
    go_wp2
    exact bodyPost_ret (v := dv false none 0 0 0) (by simp [results, Tryz.results67, go_sem]) rfl (DyRes.zero (Ext.alloc _ _))
  · rw [nrm0 (by have := Nat.mul_pos (show 0 < m by omega) (p2_pos k); omega)]
    have h0 : len m ≠ 0 := fun e => hm (len_eq_zero.1 e)
    have hl0 : ((len m : Int) == 0) = false := by simp; omega
    clear hm h0
    go_enter Tryz.func67, Tryz.ntmps67
    go_wp2_with (go_at_call 119; refine (shiftLeft_any A m k ca _ (HA.out.ext (Ext.alloc _ _)) (by omega) (by omega)).mono ?_; rintro e w2 ⟨A1, c1, rfl, hon, hx⟩; obtain ⟨hc, hf⟩ := hx.old; have HO := Lib.hid hon; have HX := Lib.hid hx; clear hon hx)
    have HON := Lib.hid (On.base1 HO.out)
    exact bodyPost_ret (v := dv neg A1 (len (m * 2 ^ k)) c1 0) (by simp [results, Tryz.results67, go_sem, hc]) rfl (DyRes.of (b := w.heap.size + 1) rfl (by repeat (first | exact HON.out | refine On.set ?_ (by omega) _ _)) (by omega) (by repeat (first | exact (Ext.alloc _ _).trans HX.out | refine Ext.set ?_ (Nat.le_refl _) _)))

theorem normal_any (neg : Bool) (A : Option Addr) (m ca : Nat) (den : Int) (w : World) (hT : Tabs w) (ha : Rd w A (len m) (dg m)) (oa : SlOk A (len m) ca) (hL : len m ≤ 33554432) (hk : -1048576 ≤ den) (hk2 : den ≤ 1048576) :
    Calls Tryz.prog 67 #[.bool neg, .slice A (len m) ca, I den] w (DyRes (nrmI neg m den) w) := by
  by_cases h : den < 0
  · obtain ⟨k, rfl⟩ : ∃ k : Nat, den = -(k : Int) := ⟨(-den).toNat, by omega⟩
    rw [nrmI_neg (by omega)]
    exact normal_neg neg A m ca k w ha hL (by omega) (by omega)
  · obtain ⟨k, rfl⟩ : ∃ k : Nat, den = (k : Int) := ⟨den.toNat, by omega⟩
    rw [nrmI_nat]
    rcases Nat.lt_or_ge 65536 k with h1 | h1
    · exact normal_big neg A m ca k w hT ha oa hL h1 (by omega)
    · exact normal_mid neg A m ca k w hT ha oa hL h1
end

/-! ### Dyc -/
section
open Go.RowKit

def vld (neg : Bool) (n : Nat) (f : Nat → Nat) (den : Int) : Bool :=
  if n = 0 then !neg && decide (den = 0) else decide (f (n - 1) ≠ 0) && decide (0 ≤ den) && decide (den ≤ 65536) && (decide (den = 0) || decide (f 0 % 2 = 1))
theorem vld_zero (neg : Bool) (f : Nat → Nat) (den : Int) : vld neg 0 f den = (!neg && decide (den = 0)) := by unfold vld; rw [if_pos rfl]
theorem vld_succ (neg : Bool) (n : Nat) (f : Nat → Nat) (den : Int) : vld neg (n + 1) f den = (decide (f n ≠ 0) && decide (0 ≤ den) && decide (den ≤ 65536) && (decide (den = 0) || decide (f 0 % 2 = 1))) := by unfold vld; rw [if_neg (by omega)]; rfl

set_option maxHeartbeats 400000 in
theorem isGrid_t (k : Int) (w : World) (h0 : 0 ≤ k) (h1 : k ≤ 65536) : Calls Tryz.prog 145 #[I k] w fun e w' => e = .returned (.bool true) ∧ w = w' := by
  go_enter Tryz.func145, Tryz.ntmps145
  go_wp2
  go_ret
  exact ⟨rfl, rfl⟩
set_option maxHeartbeats 400000 in
theorem isGrid_f (k : Int) (w : World) (h : k < 0 ∨ 65536 < k) : Calls Tryz.prog 145 #[I k] w fun e w' => e = .returned (.bool false) ∧ w = w' := by
  rcases h with h | h
  · have h1 : ¬ 0 ≤ k := by omega
    go_enter Tryz.func145, Tryz.ntmps145
    go_wp2
    go_ret
    exact ⟨rfl, rfl⟩
  · have h1 : ¬ k ≤ 65536 := by omega
    have h2 : 0 ≤ k := by omega
    go_enter Tryz.func145, Tryz.ntmps145
    go_wp2
    go_ret
    exact ⟨rfl, rfl⟩

def VldRes (b : Bool) (w : World) (e : Ending) (w' : World) : Prop := e = .returned (.bool b) ∧ Ext w w'
set_option maxRecDepth 100000 in
set_option maxHeartbeats 1000000 in
theorem valid_any (neg : Bool) (A : Option Addr) (n c : Nat) (den : Int) (f : Nat → Nat) (w : World) (hr : Rd w A n f) (hb : ∀ i, i < n → f i < 4294967296) (hn : n ≤ 1073741824) :
    Calls Tryz.prog 117 #[dv neg A n c den] w (VldRes (vld neg n f den) w) := by
  have HR := Lib.hid hr; clear hr
  cases n with
  | zero =>
    rw [vld_zero]
    cases neg with
    | true =>
      go_enter Tryz.func117, Tryz.ntmps117
      go_wp2
      go_ret
      exact ⟨by simp, Ext.alloc _ _⟩
    | false =>
      by_cases h : den = 0
      · subst h
        go_enter Tryz.func117, Tryz.ntmps117
        go_wp2
        go_ret
        exact ⟨by simp, Ext.alloc _ _⟩
      · have h1 : (den == 0) = false := by simpa using h
        have HV : Hid ((!false && decide (den = 0)) = false) := by simp [h, Hid]
        clear h
        rw [HV.out]
        go_enter Tryz.func117, Tryz.ntmps117
        go_wp2
        go_ret
        exact ⟨by simp, Ext.alloc _ _⟩
  | succ k =>
    rw [vld_succ]
    obtain ⟨b, o, rfl, hbw, hc⟩ := HR.out (by omega)
    have c1 := hc k (by omega)
    have c0 := hc 0 (by omega)
    rw [Nat.add_zero] at c0
    have hx := hb k (by omega)
    have hy := hb 0 (by omega)
    clear hc hb HR
    generalize f k = x at *
    generalize f 0 = y at *
    have hbn : b ≠ w.heap.size := by omega
    have hbl : b < w.heap.size + 1 := by omega
    by_cases h0 : x = 0
    · subst h0
      go_enter Tryz.func117, Tryz.ntmps117
      go_wp2
      go_ret
      exact ⟨by simp, Ext.alloc _ _⟩
    · have h1 : ((x : Int) == 0) = false := by simp; omega
      by_cases hg : 0 ≤ den ∧ den ≤ 65536
      · obtain ⟨g0, g1⟩ := hg
        by_cases hd : den = 0
        · subst hd
          have HV : Hid ((decide (x ≠ 0) && decide ((0 : Int) ≤ 0) && decide ((0 : Int) ≤ 65536) && (decide ((0 : Int) = 0) || decide (y % 2 = 1))) = true) := by simp [h0, Hid]
          rw [HV.out]
          clear HV h0
          go_enter Tryz.func117, Tryz.ntmps117
          go_wp2_with (go_at_call 145; refine (isGrid_t _ _ (by omega) (by omega)).mono ?_; rintro e w' ⟨rfl, rfl⟩)
          go_ret
          exact ⟨by simp, Ext.alloc _ _⟩
        · have hd1 : (den == 0) = false := by simpa using hd
          by_cases hy1 : y % 2 = 1
          · have hy2 : (y : Int) % 2 = 1 := by omega
            have HV : Hid ((decide (x ≠ 0) && decide (0 ≤ den) && decide (den ≤ 65536) && (decide (den = 0) || decide (y % 2 = 1))) = true) := by simp [h0, Hid, g0, g1, hy1]
            rw [HV.out]
            clear HV h0 hd hy1
            go_enter Tryz.func117, Tryz.ntmps117
            go_wp2_with (go_at_call 145; refine (isGrid_t _ _ (by omega) (by omega)).mono ?_; rintro e w' ⟨rfl, rfl⟩)
            go_ret
            exact ⟨by simp, Ext.alloc _ _⟩
          · have hy2 : (y : Int) % 2 = 0 := by omega
            have HV : Hid ((decide (x ≠ 0) && decide (0 ≤ den) && decide (den ≤ 65536) && (decide (den = 0) || decide (y % 2 = 1))) = false) := by simp [Hid, hy1, hd]
            rw [HV.out]
            clear HV h0 hd hy1
            go_enter Tryz.func117, Tryz.ntmps117
            go_wp2_with (go_at_call 145; refine (isGrid_t _ _ (by omega) (by omega)).mono ?_; rintro e w' ⟨rfl, rfl⟩)
            go_ret
            exact ⟨by simp, Ext.alloc _ _⟩
      · have hg' : den < 0 ∨ 65536 < den := by omega
        have HV : Hid ((decide (x ≠ 0) && decide (0 ≤ den) && decide (den ≤ 65536) && (decide (den = 0) || decide (y % 2 = 1))) = false) := by
          show _ = _
          rcases hg' with h | h
          · simp [show ¬ 0 ≤ den by omega]
          · simp [show ¬ den ≤ 65536 by omega]
        have HG := Lib.hid hg'
        rw [HV.out]
        clear HV h0 hg hg'
        go_enter Tryz.func117, Tryz.ntmps117
        go_wp2_with (go_at_call 145; refine (isGrid_f _ _ HG.out).mono ?_; rintro e w' ⟨rfl, rfl⟩)
        go_ret
        exact ⟨by simp, Ext.alloc _ _⟩

def NumRes (v : Value) (w : World) (e : Ending) (w' : World) : Prop := e = .returned v ∧ Ext w w'
set_option maxRecDepth 100000 in
set_option maxHeartbeats 1000000 in
theorem number_t (neg : Bool) (A : Option Addr) (n c : Nat) (den : Int) (f : Nat → Nat) (w : World) (hr : Rd w A n f) (hb : ∀ i, i < n → f i < 4294967296) (hn : n ≤ 1073741824) (hv : vld neg n f den = true) :
    Calls Tryz.prog 62 #[dv neg A n c den] w (NumRes (dv neg A n c den) w) := by
  have HV : Hid (∀ w', Ext w w' → Calls Tryz.prog 117 #[dv neg A n c den] w' (VldRes true w')) := fun w' e => hv ▸ valid_any neg A n c den f w' (hr.ext e) hb hn
  clear hr hb hv hn
  go_enter Tryz.func62, Tryz.ntmps62
  go_wp2_with (go_at_call 117; refine (HV.out _ ((Ext.alloc _ _).trans (Ext.alloc _ _))).mono ?_; rintro e w1 ⟨rfl, hx⟩; obtain ⟨hc, hf⟩ := hx.old; have HX := Lib.hid hx; clear hx)
  exact bodyPost_ret (v := dv neg A n c den) (by simp [results, Tryz.results62, go_sem, hc]) rfl ⟨rfl, by repeat (first | exact ((Ext.alloc _ _).trans (Ext.alloc _ _)).trans HX.out | refine Ext.set ?_ (by simp) _)⟩
set_option maxRecDepth 100000 in
set_option maxHeartbeats 1000000 in
theorem number_f (neg : Bool) (A : Option Addr) (n c : Nat) (den : Int) (f : Nat → Nat) (w : World) (hr : Rd w A n f) (hb : ∀ i, i < n → f i < 4294967296) (hn : n ≤ 1073741824) (hv : vld neg n f den = false) :
    Calls Tryz.prog 62 #[dv neg A n c den] w (NumRes (dv false none 0 0 0) w) := by
  have HV : Hid (∀ w', Ext w w' → Calls Tryz.prog 117 #[dv neg A n c den] w' (VldRes false w')) := fun w' e => hv ▸ valid_any neg A n c den f w' (hr.ext e) hb hn
  clear hr hb hv hn
  go_enter Tryz.func62, Tryz.ntmps62
  go_wp2_with (go_at_call 117; refine (HV.out _ ((Ext.alloc _ _).trans (Ext.alloc _ _))).mono ?_; rintro e w1 ⟨rfl, hx⟩; obtain ⟨hc, hf⟩ := hx.old; have HX := Lib.hid hx; clear hx)
  exact bodyPost_ret (v := dv false none 0 0 0) (by simp [results, Tryz.results62, go_sem, hc]) rfl ⟨rfl, by repeat (first | exact ((Ext.alloc _ _).trans (Ext.alloc _ _)).trans HX.out | refine Ext.set ?_ (by simp) _)⟩
end

/-! ### Dyd -/
section
open Go.RowKit

set_option maxRecDepth 100000 in
set_option maxHeartbeats 1000000 in
theorem rvalid_any (neg : Bool) (A : Option Addr) (n c : Nat) (den : Int) (f : Nat → Nat) (w : World) (hr : Rd w A n f) (hb : ∀ i, i < n → f i < 4294967296) (hn : n ≤ 1073741824) :
    Calls Tryz.prog 149 #[dv neg A n c den] w (VldRes (vld neg n f den) w) := by
  have HR := Lib.hid hr; clear hr
  cases n with
  | zero =>
    rw [vld_zero]
    cases neg with
    | true =>
      go_enter Tryz.func149, Tryz.ntmps149
      go_wp2
      go_ret
      exact ⟨by simp, Ext.alloc _ _⟩
    | false =>
      by_cases h : den = 0
      · subst h
        go_enter Tryz.func149, Tryz.ntmps149
        go_wp2
        go_ret
        exact ⟨by simp, Ext.alloc _ _⟩
      · have h1 : (den == 0) = false := by simpa using h
        have HV : Hid ((!false && decide (den = 0)) = false) := by simp [h, Hid]
        clear h
        rw [HV.out]
        go_enter Tryz.func149, Tryz.ntmps149
        go_wp2
        go_ret
        exact ⟨by simp, Ext.alloc _ _⟩
  | succ k =>
    rw [vld_succ]
    obtain ⟨b, o, rfl, hbw, hc⟩ := HR.out (by omega)
    have c1 := hc k (by omega)
    have c0 := hc 0 (by omega)
    rw [Nat.add_zero] at c0
    have hx := hb k (by omega)
    have hy := hb 0 (by omega)
    clear hc hb HR
    generalize f k = x at *
    generalize f 0 = y at *
    have hbn : b ≠ w.heap.size := by omega
    have hbl : b < w.heap.size + 1 := by omega
    by_cases h0 : x = 0
    · subst h0
      go_enter Tryz.func149, Tryz.ntmps149
      go_wp2
      go_ret
      exact ⟨by simp, Ext.alloc _ _⟩
    · have h1 : ((x : Int) == 0) = false := by simp; omega
      have h1n : ((x : Int) != 0) = true := by simp; omega
      by_cases hg : 0 ≤ den ∧ den ≤ 65536
      · obtain ⟨g0, g1⟩ := hg
        by_cases hd : den = 0
        · subst hd
          have HV : Hid ((decide (x ≠ 0) && decide ((0 : Int) ≤ 0) && decide ((0 : Int) ≤ 65536) && (decide ((0 : Int) = 0) || decide (y % 2 = 1))) = true) := by simp [h0, Hid]
          rw [HV.out]
          clear HV h0
          go_enter Tryz.func149, Tryz.ntmps149
          go_wp2
          go_ret
          exact ⟨by simp, Ext.alloc _ _⟩
        · have hd1 : (den == 0) = false := by simpa using hd
          by_cases hy1 : y % 2 = 1
          · have hy2 : (y : Int) % 2 = 1 := by omega
            have HV : Hid ((decide (x ≠ 0) && decide (0 ≤ den) && decide (den ≤ 65536) && (decide (den = 0) || decide (y % 2 = 1))) = true) := by simp [h0, Hid, g0, g1, hy1]
            rw [HV.out]
            clear HV h0 hd hy1
            go_enter Tryz.func149, Tryz.ntmps149
            go_wp2
            go_ret
            exact ⟨by simp, Ext.alloc _ _⟩
          · have hy2 : (y : Int) % 2 = 0 := by omega
            have HV : Hid ((decide (x ≠ 0) && decide (0 ≤ den) && decide (den ≤ 65536) && (decide (den = 0) || decide (y % 2 = 1))) = false) := by simp [Hid, hy1, hd]
            rw [HV.out]
            clear HV h0 hd hy1
            go_enter Tryz.func149, Tryz.ntmps149
            go_wp2
            go_ret
            exact ⟨by simp, Ext.alloc _ _⟩
      · have hg' : den < 0 ∨ 65536 < den := by omega
        have HV : Hid ((decide (x ≠ 0) && decide (0 ≤ den) && decide (den ≤ 65536) && (decide (den = 0) || decide (y % 2 = 1))) = false) := by
          show _ = _
          rcases hg' with h | h
          · simp [show ¬ 0 ≤ den by omega]
          · simp [show ¬ den ≤ 65536 by omega]
        rw [HV.out]
        clear HV h0 hg
        rcases hg' with g | g
        · have g2 : ¬ 0 ≤ den := by omega
          go_enter Tryz.func149, Tryz.ntmps149
          go_wp2
          go_ret
          exact ⟨by simp, Ext.alloc _ _⟩
        · have g2 : ¬ den ≤ 65536 := by omega
          have g3 : 0 ≤ den := by omega
          go_enter Tryz.func149, Tryz.ntmps149
          go_wp2
          go_ret
          exact ⟨by simp, Ext.alloc _ _⟩

set_option maxRecDepth 100000 in
set_option maxHeartbeats 1000000 in
theorem norm_t (neg : Bool) (A : Option Addr) (n c : Nat) (den : Int) (f : Nat → Nat) (w : World) (hr : Rd w A n f) (hb : ∀ i, i < n → f i < 4294967296) (hn : n ≤ 1073741824) (hv : vld neg n f den = true) :
    Calls Tryz.prog 125 #[dv neg A n c den] w (NumRes (dv neg A n c den) w) := by
  have HV : Hid (∀ w', Ext w w' → Calls Tryz.prog 149 #[dv neg A n c den] w' (VldRes true w')) := fun w' e => hv ▸ rvalid_any neg A n c den f w' (hr.ext e) hb hn
  clear hr hb hv hn
  go_enter Tryz.func125, Tryz.ntmps125
  go_wp2_with (go_at_call 149; refine (HV.out _ ((Ext.alloc _ _).trans (Ext.alloc _ _))).mono ?_; rintro e w1 ⟨rfl, hx⟩; obtain ⟨hc, hf⟩ := hx.old; have HX := Lib.hid hx; clear hx)
  exact bodyPost_ret (v := dv neg A n c den) (by simp [results, Tryz.results125, go_sem, hc]) rfl ⟨rfl, by repeat (first | exact ((Ext.alloc _ _).trans (Ext.alloc _ _)).trans HX.out | refine Ext.set ?_ (by simp) _)⟩
set_option maxRecDepth 100000 in
set_option maxHeartbeats 1000000 in
theorem norm_f (neg : Bool) (A : Option Addr) (n c : Nat) (den : Int) (f : Nat → Nat) (w : World) (hr : Rd w A n f) (hb : ∀ i, i < n → f i < 4294967296) (hn : n ≤ 1073741824) (hv : vld neg n f den = false) :
    Calls Tryz.prog 125 #[dv neg A n c den] w (NumRes (dv false none 0 0 0) w) := by
  have HV : Hid (∀ w', Ext w w' → Calls Tryz.prog 149 #[dv neg A n c den] w' (VldRes false w')) := fun w' e => hv ▸ rvalid_any neg A n c den f w' (hr.ext e) hb hn
  clear hr hb hv hn
  go_enter Tryz.func125, Tryz.ntmps125
  go_wp2_with (go_at_call 149; refine (HV.out _ ((Ext.alloc _ _).trans (Ext.alloc _ _))).mono ?_; rintro e w1 ⟨rfl, hx⟩; obtain ⟨hc, hf⟩ := hx.old; have HX := Lib.hid hx; clear hx)
  exact bodyPost_ret (v := dv false none 0 0 0) (by simp [results, Tryz.results125, go_sem, hc]) rfl ⟨rfl, by repeat (first | exact ((Ext.alloc _ _).trans (Ext.alloc _ _)).trans HX.out | refine Ext.set ?_ (by simp) _)⟩
end

/-! ### Dye -/
section
open Go.RowKit

/-- The struct of these fields counts as the number d, which lies at A'. -/
structure Dy (w : World) (neg : Bool) (A : Option Addr) (n c : Nat) (den : Int) (d : DV) (A' : Option Addr) (c' : Nat) : Prop where
  rd : Rd w A' (len d.m) (dg d.m)
  sl : SlOk A' (len d.m) c'
  wf : d.ok
  lim : len d.m ≤ 16777216
  num : ∀ w', Ext w w' → Calls Tryz.prog 62 #[dv neg A n c den] w' (NumRes (dv d.neg A' (len d.m) c' d.den) w')
  norm : ∀ w', Ext w w' → Calls Tryz.prog 125 #[dv neg A n c den] w' (NumRes (dv d.neg A' (len d.m) c' d.den) w')
theorem Dy.ext {w w' : World} {neg : Bool} {A A' : Option Addr} {n c c' : Nat} {den : Int} {d : DV} (h : Dy w neg A n c den d A' c') (e : Ext w w') : Dy w' neg A n c den d A' c' :=
  ⟨h.rd.ext e, h.sl, h.wf, h.lim, fun w'' e' => h.num w'' (e.trans e'), fun w'' e' => h.norm w'' (e.trans e')⟩
theorem vld_ok {d : DV} (h : d.ok) : vld d.neg (len d.m) (dg d.m) d.den = true := by
  obtain ⟨h1, h2, h3⟩ := h
  by_cases h0 : d.m = 0
  · obtain ⟨e1, e2⟩ := h1 h0
    rw [h0, len_zero, vld_zero, e1, e2]; rfl
  · have ht := dg_top h0
    unfold vld
    rw [if_neg (fun e => h0 (len_eq_zero.1 e)), dg_zero]
    by_cases hd : d.den = 0
    · simp [ht, hd]
    · have := h3 (by omega)
      simp [ht]
      exact ⟨by omega, .inr (by omega)⟩
theorem Dy.valid {w : World} {d : DV} {A : Option Addr} {c : Nat} (hr : Rd w A (len d.m) (dg d.m)) (ok : SlOk A (len d.m) c) (wf : d.ok) (hl : len d.m ≤ 16777216) : Dy w d.neg A (len d.m) c d.den d A c :=
  ⟨hr, ok, wf, hl, fun w' e => number_t _ _ _ _ _ _ _ (hr.ext e) (wf_dg d.m) (by omega) (vld_ok wf), fun w' e => norm_t _ _ _ _ _ _ _ (hr.ext e) (wf_dg d.m) (by omega) (vld_ok wf)⟩
def nrA (neg : Bool) (n : Nat) (f : Nat → Nat) (den : Int) : DV := if vld neg n f den = true then ⟨neg, valN f n, den.toNat⟩ else DV.zero
theorem zero_len : len DV.zero.m = 0 := len_zero
theorem Dy.any {w : World} {neg : Bool} {A : Option Addr} {n c : Nat} {den : Int} {f : Nat → Nat} (hr : Rd w A n f) (ok : SlOk A n c) (hb : ∀ i, i < n → f i < 4294967296) (hn : n ≤ 16777216) :
    Dy w neg A n c den (nrA neg n f den) (if vld neg n f den = true then A else none) (if vld neg n f den = true then c else 0) := by
  by_cases hv : vld neg n f den = true
  · have e : nrA neg n f den = ⟨neg, valN f n, den.toNat⟩ := by unfold nrA; rw [if_pos hv]
    rw [if_pos hv, if_pos hv, e]
    have hl : len (valN f n) = n := by
      refine len_valN hb (Nat.le_refl _) (fun i h1 h2 => by omega) ?_
      cases n with
      | zero => exact .inl rfl
      | succ k => rw [vld_succ] at hv; simp at hv; exact .inr (by simpa using hv.1.1.1)
    have hd : 0 ≤ den ∧ den ≤ 65536 ∧ (n = 0 → neg = false ∧ den = 0) ∧ (0 < den → f 0 % 2 = 1) := by
      cases n with
      | zero => rw [vld_zero] at hv; simp at hv; exact ⟨by omega, by omega, fun _ => hv, fun h => by omega⟩
      | succ k => rw [vld_succ] at hv; simp at hv; exact ⟨hv.1.1.2, hv.1.2, fun h => by omega, fun h => by omega⟩
    obtain ⟨d0, d1, d2, d3⟩ := hd
    have ed : ((den.toNat : Nat) : Int) = den := by omega
    refine ⟨?_, ?_, ⟨?_, ?_, ?_⟩, ?_, ?_, ?_⟩
    · show Rd w A (len (valN f n)) _
      rw [hl]; exact hr.congr fun i hi => (dg_valN hb hi).symm
    · show SlOk A (len (valN f n)) c
      rw [hl]; exact ok
    · intro h0
      have h0' : valN f n = 0 := h0
      have : n = 0 := by rw [h0', len_zero] at hl; exact hl.symm
      have := d2 this
      exact ⟨this.1, by show den.toNat = 0; omega⟩
    · show den.toNat ≤ 65536; omega
    · intro h0
      have h0' : 0 < den.toNat := h0
      have h1 := d3 (by omega)
      have hn0 : 0 < n := by
        rcases Nat.eq_zero_or_pos n with h | h
        · have := (d2 h).2; omega
        · exact h
      have := dg_valN hb hn0
      rw [dg_zero] at this
      show valN f n % 2 = 1
      omega
    · show len (valN f n) ≤ _
      omega
    · intro w' e'
      show Calls _ _ _ _ (NumRes (dv neg A (len (valN f n)) c ((den.toNat : Nat) : Int)) w')
      rw [hl, ed]; exact number_t _ _ _ _ _ _ _ (hr.ext e') hb (by omega) hv
    · intro w' e'
      show Calls _ _ _ _ (NumRes (dv neg A (len (valN f n)) c ((den.toNat : Nat) : Int)) w')
      rw [hl, ed]; exact norm_t _ _ _ _ _ _ _ (hr.ext e') hb (by omega) hv
  · have hv' : vld neg n f den = false := by simpa using hv
    have e : nrA neg n f den = DV.zero := by unfold nrA; rw [if_neg hv]
    rw [if_neg hv, if_neg hv, e]
    refine ⟨by rw [zero_len]; exact Rd.none_, by rw [zero_len]; exact ⟨Nat.le_refl _, Nat.zero_le _, fun _ => ⟨rfl, rfl⟩⟩, DV.zero_ok, by rw [zero_len]; omega, ?_, ?_⟩
    · intro w' e'
      rw [zero_len]; exact number_f _ _ _ _ _ _ _ (hr.ext e') hb (by omega) hv'
    · intro w' e'
      rw [zero_len]; exact norm_f _ _ _ _ _ _ _ (hr.ext e') hb (by omega) hv'
theorem Dy.zero (w : World) : Dy w false none 0 0 0 DV.zero none 0 := by
  have := Dy.valid (w := w) (d := DV.zero) (A := none) (c := 0) (by rw [zero_len]; exact Rd.none_) (by rw [zero_len]; exact ⟨Nat.le_refl _, Nat.zero_le _, fun _ => ⟨rfl, rfl⟩⟩) DV.zero_ok (by rw [zero_len]; omega)
  rw [zero_len] at this
  exact this
end
end

/-! ### Mdyf -/
section
/-! ### Dyf -/
section
open Go.RowKit

theorem normal_at (neg : Bool) (A : Option Addr) (m ca : Nat) (den : Int) (w : World) (d : DV) (hd : nrmI neg m den = d) (hT : Tabs w) (ha : Rd w A (len m) (dg m)) (oa : SlOk A (len m) ca) (hL : len m ≤ 33554432) (hk : -1048576 ≤ den) (hk2 : den ≤ 1048576) :
    Calls Tryz.prog 67 #[.bool neg, .slice A (len m) ca, I den] w (DyRes d w) := by subst hd; exact normal_any neg A m ca den w hT ha oa hL hk hk2

/-- The block g begins with these three cells. -/
def St (w : World) (g : Nat) (v0 v1 v2 : Value) : Prop := w.cell? ⟨g, 0, none⟩ = some v0 ∧ w.cell? ⟨g, 1, none⟩ = some v1 ∧ w.cell? ⟨g, 2, none⟩ = some v2
theorem St.lt {w : World} {g : Nat} {v0 v1 v2 : Value} (h : St w g v0 v1 v2) : g < w.heap.size := World.block_lt_of_cell? w _ h.1
theorem St.ext {w w' : World} {g : Nat} {v0 v1 v2 : Value} (h : St w g v0 v1 v2) (e : Ext w w') : St w' g v0 v1 v2 :=
  ⟨(e.old.1 _ _ h.lt).trans h.1, (e.old.1 _ _ h.lt).trans h.2.1, (e.old.1 _ _ h.lt).trans h.2.2⟩
theorem St.new (w : World) (v0 v1 v2 : Value) (t : TypeId) : St (w.alloc (.cells #[v0, v1, v2] t)) w.heap.size v0 v1 v2 := ⟨by go_simp, by go_simp, by go_simp⟩
theorem St.far {w : World} {g g' : Nat} {v0 v1 v2 : Value} (h : St w g v0 v1 v2) (hne : g' ≠ g) (i : Nat) (u : Value) : St (w.setCell ⟨g', i, none⟩ u) g v0 v1 v2 :=
  ⟨(World.cell?_setCell_other _ _ _ _ (by intro e; injection e with e; exact hne e)).trans h.1, (World.cell?_setCell_other _ _ _ _ (by intro e; injection e with e; exact hne e)).trans h.2.1, (World.cell?_setCell_other _ _ _ _ (by intro e; injection e with e; exact hne e)).trans h.2.2⟩
/-- Behind a call: a box and a result that lie in the two newest blocks. -/
theorem two_boxes {w w1 : World} {u0 u1 u2 v0 v1 v2 : Value} {t t' : TypeId} (hx : Ext ((w.alloc (.cells #[u0, u1, u2] t)).alloc (.cells #[v0, v1, v2] t')) w1) :
    St w1 w.heap.size u0 u1 u2 ∧ St w1 (w.heap.size + 1) v0 v1 v2 ∧ w.heap.size + 1 < w1.heap.size ∧ Ext w w1 := by
  have s1 := ((St.new w u0 u1 u2 t).ext (Ext.alloc _ (.cells #[v0, v1, v2] t'))).ext hx
  have s2 := St.new (w.alloc (.cells #[u0, u1, u2] t)) v0 v1 v2 t'
  rw [show (w.alloc (.cells #[u0, u1, u2] t)).heap.size = w.heap.size + 1 by simp] at s2
  exact ⟨s1, s2.ext hx, (s2.ext hx).lt, ((Ext.alloc _ _).trans (Ext.alloc _ _)).trans hx⟩
theorem ext_set3 {w w1 : World} {g : Nat} (h : Ext w w1) (hg : w.heap.size ≤ g) (u0 u1 u2 : Value) : Ext w (((w1.setCell ⟨g, 0, none⟩ u0).setCell ⟨g, 1, none⟩ u1).setCell ⟨g, 2, none⟩ u2) := Ext.set (Ext.set (Ext.set h hg _) hg _) hg _
theorem St.far3 {w : World} {g g' : Nat} {v0 v1 v2 : Value} (h : St w g v0 v1 v2) (hne : g' ≠ g) (u0 u1 u2 : Value) : St (((w.setCell ⟨g', 0, none⟩ u0).setCell ⟨g', 1, none⟩ u1).setCell ⟨g', 2, none⟩ u2) g v0 v1 v2 := ((h.far hne _ _).far hne _ _).far hne _ _
theorem On.set3 {w : World} {b n c g : Nat} {A : Option Addr} {f : Nat → Nat} (h : On w b A n c f) (hg : g < b) (u0 u1 u2 : Value) : On (((w.setCell ⟨g, 0, none⟩ u0).setCell ⟨g, 1, none⟩ u1).setCell ⟨g, 2, none⟩ u2) b A n c f := ((h.set hg _ _).set hg _ _).set hg _ _
theorem size_set3 (w : World) (g : Nat) (u0 u1 u2 : Value) : (((w.setCell ⟨g, 0, none⟩ u0).setCell ⟨g, 1, none⟩ u1).setCell ⟨g, 2, none⟩ u2).heap.size = w.heap.size := by simp
/-- The end of a function that stores a call's number as its result. -/
theorem DyRes.end3 {d : DV} {w W w2 : World} {A : Option Addr} {c g : Nat} {e : Ending} {u0 u1 u2 : Value} (he : e = .returned (dv d.neg A (len d.m) c d.den)) (hon : On w2 W.heap.size A (len d.m) c (dg d.m)) (hx : Ext w w2) (hW : w.heap.size ≤ W.heap.size) (hg : w.heap.size ≤ g) (hg2 : g < W.heap.size) :
    DyRes d w e (((w2.setCell ⟨g, 0, none⟩ u0).setCell ⟨g, 1, none⟩ u1).setCell ⟨g, 2, none⟩ u2) :=
  ⟨A, c, he, (hon.set3 hg2 _ _ _).mono hW, ext_set3 hx hg _ _ _⟩

set_option maxRecDepth 100000 in
set_option maxHeartbeats 1000000 in
theorem neg_any {w : World} {neg : Bool} {A A' : Option Addr} {n c c' : Nat} {den : Int} {d : DV} (h : Dy w neg A n c den d A' c') (hT : Tabs w) : Calls Tryz.prog 169 #[dv neg A n c den] w (DyRes (negD d) w) := by
  have H := Lib.hid h; have HT := Lib.hid hT; clear h hT
  have hd1 := H.out.wf.2.1
  have hl1 := H.out.lim
  obtain ⟨d', hd'⟩ : ∃ d', negD d = d' := ⟨_, rfl⟩
  rw [hd']
  have HD' : Hid (nrmI (!d.neg) d.m d.den = d') := by show _ = _; rw [nrmI_nat, ← hd']; rfl
  clear hd'
  go_enter Tryz.func169, Tryz.ntmps169
  go_wp2_with (go_at_call 62; refine (H.out.num _ ((Ext.alloc _ _).trans (Ext.alloc _ _))).mono ?_; rintro e w1 ⟨rfl, hx⟩; obtain ⟨⟨k0, k1, k2⟩, s1, hz, hx1⟩ := two_boxes hx; have S1 := Lib.hid s1; have HX := Lib.hid hx1; obtain ⟨hc, hf⟩ := hx.old; clear hx hx1 s1)
  have HW := Lib.hid (ext_set3 HX.out (Nat.le_refl _))
  refine (normal_at _ _ _ _ _ _ d' HD'.out (HT.out.ext (HW.out _ _ _)) (H.out.rd.ext (HW.out _ _ _)) H.out.sl (by omega) (by omega) (by omega)).mono ?_
  rintro e w2 ⟨A2, c2, rfl, hon, hx⟩
  obtain ⟨r0, r1, r2⟩ := (S1.out.far3 (by omega) _ _ _).ext hx
  obtain ⟨hc2, hf2⟩ := hx.old
  have HX2 := Lib.hid ((HW.out _ _ _).trans hx)
  have HO := Lib.hid hon
  clear hon hx
  go_wp2_with fail
  exact bodyPost_ret (v := dv d'.neg A2 (len d'.m) c2 d'.den) (by simp [results, Tryz.results169, go_sem, r0, r1, r2]) rfl (DyRes.end3 rfl HO.out HX2.out (by simp; omega) (by omega) (by simp; omega))

set_option maxRecDepth 100000 in
set_option maxHeartbeats 1000000 in
theorem abs_any {w : World} {neg : Bool} {A A' : Option Addr} {n c c' : Nat} {den : Int} {d : DV} (h : Dy w neg A n c den d A' c') (hT : Tabs w) : Calls Tryz.prog 173 #[dv neg A n c den] w (DyRes (absD d) w) := by
  have H := Lib.hid h; have HT := Lib.hid hT; clear h hT
  have hd1 := H.out.wf.2.1
  have hl1 := H.out.lim
  obtain ⟨d', hd'⟩ : ∃ d', absD d = d' := ⟨_, rfl⟩
  rw [hd']
  have HD' : Hid (nrmI false d.m d.den = d') := by show _ = _; rw [nrmI_nat, ← hd']; rfl
  clear hd'
  go_enter Tryz.func173, Tryz.ntmps173
  go_wp2_with (go_at_call 62; refine (H.out.num _ ((Ext.alloc _ _).trans (Ext.alloc _ _))).mono ?_; rintro e w1 ⟨rfl, hx⟩; obtain ⟨⟨k0, k1, k2⟩, s1, hz, hx1⟩ := two_boxes hx; have S1 := Lib.hid s1; have HX := Lib.hid hx1; obtain ⟨hc, hf⟩ := hx.old; clear hx hx1 s1)
  have HW := Lib.hid (ext_set3 HX.out (Nat.le_refl _))
  refine (normal_at _ _ _ _ _ _ d' HD'.out (HT.out.ext (HW.out _ _ _)) (H.out.rd.ext (HW.out _ _ _)) H.out.sl (by omega) (by omega) (by omega)).mono ?_
  rintro e w2 ⟨A2, c2, rfl, hon, hx⟩
  obtain ⟨r0, r1, r2⟩ := (S1.out.far3 (by omega) _ _ _).ext hx
  obtain ⟨hc2, hf2⟩ := hx.old
  have HX2 := Lib.hid ((HW.out _ _ _).trans hx)
  have HO := Lib.hid hon
  clear hon hx
  go_wp2_with fail
  exact bodyPost_ret (v := dv d'.neg A2 (len d'.m) c2 d'.den) (by simp [results, Tryz.results173, go_sem, r0, r1, r2]) rfl (DyRes.end3 rfl HO.out HX2.out (by simp; omega) (by omega) (by simp; omega))

set_option maxRecDepth 100000 in
set_option maxHeartbeats 1000000 in
theorem fresh_any {w : World} {neg : Bool} {A A' : Option Addr} {n c c' : Nat} {den : Int} {d : DV} (h : Dy w neg A n c den d A' c') (hT : Tabs w) : Calls Tryz.prog 183 #[dv neg A n c den] w (DyRes d w) := by
  have H := Lib.hid h; have HT := Lib.hid hT; clear h hT
  have hd1 := H.out.wf.2.1
  have hl1 := H.out.lim
  obtain ⟨d', hd'⟩ : ∃ d', d = d' := ⟨_, rfl⟩
  rw [hd']
  have HD' : Hid (nrmI d.neg d.m d.den = d') := by show _ = _; rw [nrmI_nat, ← hd', mkD_small H.out.wf.2.1, nrm_of_ok H.out.wf]
  clear hd'
  go_enter Tryz.func183, Tryz.ntmps183
  go_wp2_with (go_at_call 62; refine (H.out.num _ ((Ext.alloc _ _).trans (Ext.alloc _ _))).mono ?_; rintro e w1 ⟨rfl, hx⟩; obtain ⟨⟨k0, k1, k2⟩, s1, hz, hx1⟩ := two_boxes hx; have S1 := Lib.hid s1; have HX := Lib.hid hx1; obtain ⟨hc, hf⟩ := hx.old; clear hx hx1 s1)
  have HW := Lib.hid (ext_set3 HX.out (Nat.le_refl _))
  refine (normal_at _ _ _ _ _ _ d' HD'.out (HT.out.ext (HW.out _ _ _)) (H.out.rd.ext (HW.out _ _ _)) H.out.sl (by omega) (by omega) (by omega)).mono ?_
  rintro e w2 ⟨A2, c2, rfl, hon, hx⟩
  obtain ⟨r0, r1, r2⟩ := (S1.out.far3 (by omega) _ _ _).ext hx
  obtain ⟨hc2, hf2⟩ := hx.old
  have HX2 := Lib.hid ((HW.out _ _ _).trans hx)
  have HO := Lib.hid hon
  clear hon hx
  go_wp2_with fail
  exact bodyPost_ret (v := dv d'.neg A2 (len d'.m) c2 d'.den) (by simp [results, Tryz.results183, go_sem, r0, r1, r2]) rfl (DyRes.end3 rfl HO.out HX2.out (by simp; omega) (by omega) (by simp; omega))
end

/-! ### Dyg -/
section
open Go.RowKit
attribute [local go_sem ↓] Go.wp_at_zero Go.wp_at_succ

theorem len_mul (m n : Nat) : len (m * n) ≤ len m + len n := by
  refine len_le ?_
  rw [pB_add]
  rcases Nat.eq_zero_or_pos n with h | h
  · subst h; have := pB_pos (len m); have := pB_pos (len 0); rw [Nat.mul_zero]; exact Nat.mul_pos (pB_pos _) (pB_pos _)
  · exact Nat.lt_of_lt_of_le (Nat.mul_lt_mul_of_pos_right (lt_pB_len m) h) (Nat.mul_le_mul_left _ (Nat.le_of_lt (lt_pB_len n)))

/-- A block of one's own that begins with these three cells. -/
def Bx (w : World) (g : Nat) (v0 v1 v2 : Value) : Prop := St w g v0 v1 v2 ∧ ∀ i, w.frozen? ⟨g, i, none⟩ = false
theorem Bx.lt {w : World} {g : Nat} {v0 v1 v2 : Value} (h : Bx w g v0 v1 v2) : g < w.heap.size := h.1.lt
theorem Bx.ext {w w' : World} {g : Nat} {v0 v1 v2 : Value} (h : Bx w g v0 v1 v2) (e : Ext w w') : Bx w' g v0 v1 v2 := ⟨h.1.ext e, fun i => (e.old.2 _ _ h.lt).trans (h.2 i)⟩
theorem Bx.new (w : World) (v0 v1 v2 : Value) (t : TypeId) : Bx (w.alloc (.cells #[v0, v1, v2] t)) w.heap.size v0 v1 v2 := ⟨St.new w v0 v1 v2 t, fun i => by go_simp⟩
theorem Bx.far3 {w : World} {g g' : Nat} {v0 v1 v2 : Value} (h : Bx w g v0 v1 v2) (hne : g' ≠ g) (u0 u1 u2 : Value) : Bx (((w.setCell ⟨g', 0, none⟩ u0).setCell ⟨g', 1, none⟩ u1).setCell ⟨g', 2, none⟩ u2) g v0 v1 v2 :=
  ⟨h.1.far3 hne _ _ _, fun i => by simp [h.2 i]⟩
theorem Bx.set3 {w : World} {g : Nat} {v0 v1 v2 : Value} (h : Bx w g v0 v1 v2) (u0 u1 u2 : Value) : Bx (((w.setCell ⟨g, 0, none⟩ u0).setCell ⟨g, 1, none⟩ u1).setCell ⟨g, 2, none⟩ u2) g u0 u1 u2 := by
  obtain ⟨⟨h0, h1, h2⟩, hf⟩ := h
  have c0 := World.cell?_setCell_same w _ u0 h0
  have n1 : (w.setCell ⟨g, 0, none⟩ u0).cell? ⟨g, 1, none⟩ = some v1 := (World.cell?_setCell_other _ _ _ _ (by intro e; injection e with _ e; cases e)).trans h1
  have n2 : (w.setCell ⟨g, 0, none⟩ u0).cell? ⟨g, 2, none⟩ = some v2 := (World.cell?_setCell_other _ _ _ _ (by intro e; injection e with _ e; cases e)).trans h2
  have m0 : ((w.setCell ⟨g, 0, none⟩ u0).setCell ⟨g, 1, none⟩ u1).cell? ⟨g, 0, none⟩ = some u0 := (World.cell?_setCell_other _ _ _ _ (by intro e; injection e with _ e; cases e)).trans c0
  have m1 := World.cell?_setCell_same _ _ u1 n1
  have m2 : ((w.setCell ⟨g, 0, none⟩ u0).setCell ⟨g, 1, none⟩ u1).cell? ⟨g, 2, none⟩ = some v2 := (World.cell?_setCell_other _ _ _ _ (by intro e; injection e with _ e; cases e)).trans n2
  refine ⟨⟨?_, ?_, World.cell?_setCell_same _ _ _ m2⟩, fun i => by simp [hf i]⟩
  · exact (World.cell?_setCell_other _ _ _ _ (by intro e; injection e with _ e; cases e)).trans m0
  · exact (World.cell?_setCell_other _ _ _ _ (by intro e; injection e with _ e; cases e)).trans m1
/-- Three boxes: two arguments and a result. -/
theorem three_boxes (w : World) (a0 a1 a2 b0 b1 b2 c0 c1 c2 : Value) (t t' t'' : TypeId) :
    Bx (((w.alloc (.cells #[a0, a1, a2] t)).alloc (.cells #[b0, b1, b2] t')).alloc (.cells #[c0, c1, c2] t'')) w.heap.size a0 a1 a2 ∧
    Bx (((w.alloc (.cells #[a0, a1, a2] t)).alloc (.cells #[b0, b1, b2] t')).alloc (.cells #[c0, c1, c2] t'')) (w.heap.size + 1) b0 b1 b2 ∧
    Bx (((w.alloc (.cells #[a0, a1, a2] t)).alloc (.cells #[b0, b1, b2] t')).alloc (.cells #[c0, c1, c2] t'')) (w.heap.size + 1 + 1) c0 c1 c2 ∧ Ext w (((w.alloc (.cells #[a0, a1, a2] t)).alloc (.cells #[b0, b1, b2] t')).alloc (.cells #[c0, c1, c2] t'')) := by
  have s1 := ((Bx.new w a0 a1 a2 t).ext (Ext.alloc _ (.cells #[b0, b1, b2] t'))).ext (Ext.alloc _ (.cells #[c0, c1, c2] t''))
  have s2 := (Bx.new (w.alloc (.cells #[a0, a1, a2] t)) b0 b1 b2 t').ext (Ext.alloc _ (.cells #[c0, c1, c2] t''))
  have s3 := Bx.new ((w.alloc (.cells #[a0, a1, a2] t)).alloc (.cells #[b0, b1, b2] t')) c0 c1 c2 t''
  rw [show (w.alloc (.cells #[a0, a1, a2] t)).heap.size = w.heap.size + 1 by simp] at s2
  rw [show ((w.alloc (.cells #[a0, a1, a2] t)).alloc (.cells #[b0, b1, b2] t')).heap.size = w.heap.size + 1 + 1 by simp] at s3
  exact ⟨s1, s2, s3, ((Ext.alloc _ _).trans (Ext.alloc _ _)).trans (Ext.alloc _ _)⟩

/-- What the first statement of a function of two numbers leaves. -/
def Two (w : World) (a b : DV) (A B : Option Addr) (ca cb : Nat) (wx : World) : Prop :=
  Ext w wx ∧ Bx wx w.heap.size (.bool a.neg) (.slice A (len a.m) ca) (I a.den) ∧ Bx wx (w.heap.size + 1) (.bool b.neg) (.slice B (len b.m) cb) (I b.den) ∧ Bx wx (w.heap.size + 1 + 1) (.bool false) (.slice none 0 0) (I 0)
theorem two_of {w W0 W : World} {a b : DV} {A B : Option Addr} {ca cb : Nat} {a0 a1 a2 b0 b1 b2 : Value} (h0 : Bx W0 w.heap.size a0 a1 a2) (h1 : Bx W0 (w.heap.size + 1) b0 b1 b2) (h2 : Bx W0 (w.heap.size + 1 + 1) (.bool false) (.slice none 0 0) (I 0)) (hw : Ext w W0) (hx : Ext W0 W) :
    Two w a b A B ca cb ((((((W.setCell ⟨w.heap.size, 0, none⟩ (.bool a.neg)).setCell ⟨w.heap.size, 1, none⟩ (.slice A (len a.m) ca)).setCell ⟨w.heap.size, 2, none⟩ (I a.den)).setCell ⟨w.heap.size + 1, 0, none⟩ (.bool b.neg)).setCell ⟨w.heap.size + 1, 1, none⟩ (.slice B (len b.m) cb)).setCell ⟨w.heap.size + 1, 2, none⟩ (I b.den)) :=
  ⟨ext_set3 (ext_set3 (hw.trans hx) (Nat.le_refl _) _ _ _) (by omega) _ _ _, ((h0.ext hx).set3 _ _ _).far3 (by omega) _ _ _, ((h1.ext hx).far3 (by omega) _ _ _).set3 _ _ _, ((h2.ext hx).far3 (by omega) _ _ _).far3 (by omega) _ _ _⟩
theorem keepB {w0 w' : World} {g h : Nat} {a0 a1 a2 b0 b1 b2 : Value} (ha : Bx w0 g a0 a1 a2) (hb : Bx w0 h b0 b1 b2) (e : Ext w0 w') :
    w'.cell? ⟨g, 0, none⟩ = some a0 ∧ w'.cell? ⟨g, 1, none⟩ = some a1 ∧ w'.cell? ⟨g, 2, none⟩ = some a2 ∧ w'.cell? ⟨h, 0, none⟩ = some b0 ∧ w'.cell? ⟨h, 1, none⟩ = some b1 ∧ w'.cell? ⟨h, 2, none⟩ = some b2 :=
  ⟨(ha.ext e).1.1, (ha.ext e).1.2.1, (ha.ext e).1.2.2, (hb.ext e).1.1, (hb.ext e).1.2.1, (hb.ext e).1.2.2⟩

theorem keepC {w0 w' : World} {g h j : Nat} {a0 a1 a2 b0 b1 b2 u0 u1 u2 : Value} (ha : Bx w0 g a0 a1 a2) (hb : Bx w0 h b0 b1 b2) (hg : j ≠ g) (hh : j ≠ h) (e : Ext w0 w') :
    (((w'.setCell ⟨j, 0, none⟩ u0).setCell ⟨j, 1, none⟩ u1).setCell ⟨j, 2, none⟩ u2).cell? ⟨g, 0, none⟩ = some a0 ∧ (((w'.setCell ⟨j, 0, none⟩ u0).setCell ⟨j, 1, none⟩ u1).setCell ⟨j, 2, none⟩ u2).cell? ⟨g, 1, none⟩ = some a1 ∧
    (((w'.setCell ⟨j, 0, none⟩ u0).setCell ⟨j, 1, none⟩ u1).setCell ⟨j, 2, none⟩ u2).cell? ⟨g, 2, none⟩ = some a2 ∧ (((w'.setCell ⟨j, 0, none⟩ u0).setCell ⟨j, 1, none⟩ u1).setCell ⟨j, 2, none⟩ u2).cell? ⟨h, 0, none⟩ = some b0 ∧
    (((w'.setCell ⟨j, 0, none⟩ u0).setCell ⟨j, 1, none⟩ u1).setCell ⟨j, 2, none⟩ u2).cell? ⟨h, 1, none⟩ = some b1 ∧ (((w'.setCell ⟨j, 0, none⟩ u0).setCell ⟨j, 1, none⟩ u1).setCell ⟨j, 2, none⟩ u2).cell? ⟨h, 2, none⟩ = some b2 :=
  ⟨((ha.ext e).far3 hg _ _ _).1.1, ((ha.ext e).far3 hg _ _ _).1.2.1, ((ha.ext e).far3 hg _ _ _).1.2.2, ((hb.ext e).far3 hh _ _ _).1.1, ((hb.ext e).far3 hh _ _ _).1.2.1, ((hb.ext e).far3 hh _ _ _).1.2.2⟩

set_option maxRecDepth 100000 in
set_option maxHeartbeats 1000000 in
theorem mul_any {w : World} {na nb : Bool} {A A' B B' : Option Addr} {n c c' k e e' : Nat} {da db : Int} {a b : DV} (ha : Dy w na A n c da a A' c') (hb' : Dy w nb B k e db b B' e') (hT : Tabs w) :
    Calls Tryz.prog 170 #[dv na A n c da, dv nb B k e db] w (DyRes (mulD a b) w) := by
  have HA := Lib.hid ha; have HB := Lib.hid hb'; have HT := Lib.hid hT; clear ha hb' hT
  have a1 := HA.out.wf.2.1
  have b1 := HB.out.wf.2.1
  have a2 := HA.out.lim
  have b2 := HB.out.lim
  obtain ⟨d', hd'⟩ : ∃ d', mulD a b = d' := ⟨_, rfl⟩
  rw [hd']
  obtain ⟨sd, hsd⟩ : ∃ sd, a.den + b.den = sd := ⟨_, rfl⟩
  have ew : IntKind.i64.wrap ((a.den : Int) + b.den) = (sd : Int) := by rw [IntWalk.i64_in _ (by omega)]; omega
  have hsd2 : sd ≤ 131072 := by omega
  obtain ⟨P, hP⟩ : ∃ P, a.m * b.m = P := ⟨_, rfl⟩
  have hPl : len P ≤ 33554432 := by have := len_mul a.m b.m; rw [hP] at this; omega
  have HP := Lib.hid hP
  have HD' : Hid (nrmI (a.neg != b.neg) P (sd : Int) = d') := by
    show _ = _
    rw [nrmI_nat, ← hd', ← hsd, ← hP]; rfl
  clear hsd hP
  clear hd'
  go_enter Tryz.func170, Tryz.ntmps170
  go_upto_region 1 with fail
  obtain ⟨X0, X1, X2, XE⟩ := three_boxes w (.bool na) (.slice A n c) (I da) (.bool nb) (.slice B k e) (I db) (.bool false) (.slice none 0 0) (I 0) 66 66 66
  have HX0 := Lib.hid X0; have HX1 := Lib.hid X1; have HX2 := Lib.hid X2; have HXE := Lib.hid XE
  clear X0 X1 X2 XE
  go_cut [] (fun wx => Two w a b A' B' c' e' wx)
  case first =>
    go_region_with ((first | (go_at_call 62; refine (HA.out.num _ (HXE.out.trans (by repeat (first | exact Ext.refl _ | assumption | refine Ext.trans ?_ (Ext.drew _) | refine Ext.trans ?_ (by assumption))))).mono ?_; rintro e wa ⟨rfl, hxa⟩; have ga0 := (HX0.out.ext (w' := wa) (by repeat (first | exact Ext.refl _ | assumption | refine Ext.trans ?_ (Ext.drew _) | refine Ext.trans ?_ (by assumption)))).2; have ga1 := (HX1.out.ext (w' := wa) (by repeat (first | exact Ext.refl _ | assumption | refine Ext.trans ?_ (Ext.drew _) | refine Ext.trans ?_ (by assumption)))).2; obtain ⟨ka0, ka1, ka2, ka3, ka4, ka5⟩ := keepB HX0.out HX1.out (w' := wa) (by repeat (first | exact Ext.refl _ | assumption | refine Ext.trans ?_ (Ext.drew _) | refine Ext.trans ?_ (by assumption)))) | (go_at_call 62; refine (HB.out.num _ (HXE.out.trans (by repeat (first | exact Ext.refl _ | assumption | refine Ext.trans ?_ (Ext.drew _) | refine Ext.trans ?_ (by assumption))))).mono ?_; rintro e wb ⟨rfl, hxb⟩; have gb0 := (HX0.out.ext (w' := wb) (by repeat (first | exact Ext.refl _ | assumption | refine Ext.trans ?_ (Ext.drew _) | refine Ext.trans ?_ (by assumption)))).2; have gb1 := (HX1.out.ext (w' := wb) (by repeat (first | exact Ext.refl _ | assumption | refine Ext.trans ?_ (Ext.drew _) | refine Ext.trans ?_ (by assumption)))).2; obtain ⟨kb0, kb1, kb2, kb3, kb4, kb5⟩ := keepB HX0.out HX1.out (w' := wb) (by repeat (first | exact Ext.refl _ | assumption | refine Ext.trans ?_ (Ext.drew _) | refine Ext.trans ?_ (by assumption))))))
    all_goals
      go_wp2_with fail
      go_meet
      first
        | exact two_of HX0.out HX1.out HX2.out HXE.out (by repeat (first | exact Ext.refl _ | assumption | refine Ext.trans ?_ (Ext.drew _) | refine Ext.trans ?_ (by assumption)))
  case rest =>
    clear HX0 HX1 HX2 HXE
    obtain ⟨hE, X0, X1, X2⟩ := hcut
    have HX0 := Lib.hid X0; have HX1 := Lib.hid X1; have HX2 := Lib.hid X2; have HE := Lib.hid hE
    clear X0 X1 X2 hE
    go_upto_region 2 with fail
    obtain ⟨k0, k1, k2, k3, k4, k5⟩ := keepB HX0.out HX1.out (Ext.refl _)
    have hn2 : ¬ w.heap.size + 1 + 1 = w.heap.size := by omega
    have hn3 : ¬ w.heap.size = w.heap.size + 1 + 1 := by omega
    go_region_held3 (fun w' => w'.cell? ⟨w.heap.size, 0, none⟩ = some (.bool a.neg) ∧ w'.cell? ⟨w.heap.size, 1, none⟩ = some (.slice A' (len a.m) c') ∧ w'.cell? ⟨w.heap.size, 2, none⟩ = some (I a.den) ∧ w'.cell? ⟨w.heap.size + 1, 0, none⟩ = some (.bool b.neg) ∧ w'.cell? ⟨w.heap.size + 1, 1, none⟩ = some (.slice B' (len b.m) e') ∧ w'.cell? ⟨w.heap.size + 1, 2, none⟩ = some (I b.den))
      (go_keep)
      (first
        | (go_at_call 182; refine (product_any A' B' a.m b.m c' e' _ (HA.out.rd.ext (HE.out.trans (Ext.drew _))) (HB.out.rd.ext (HE.out.trans (Ext.drew _))) (by omega) (by omega)).mono ?_; rintro e w1 ⟨P1, p1, rfl, hon, hx⟩; obtain ⟨q0, q1, q2, q3, q4, q5⟩ := keepB HX0.out HX1.out (w' := w1) ((Ext.drew _).trans hx); rw [HP.out] at hon; rw [HP.out])
        | (go_at_call 67; refine (normal_at _ P1 P p1 _ _ d' HD'.out (HT.out.ext ((HE.out.trans (Ext.drew _)).trans hx)) hon.rd hon.ok hPl (by omega) (by omega)).mono ?_; rintro e w2 ⟨A2, c2, rfl, hon2, hx2⟩; obtain ⟨p0, p1, p2, p3, p4, p5⟩ := keepB HX0.out HX1.out (w' := w2) (((Ext.drew _).trans hx).trans hx2); have gz := (HX2.out.ext (w' := w2) (((Ext.drew _).trans hx).trans hx2)).2; obtain ⟨r0, r1, r2⟩ := (HX2.out.ext (w' := w2) (((Ext.drew _).trans hx).trans hx2)).1))
    all_goals
      have HO := Lib.hid hon2
      have HF := Lib.hid (((HE.out.trans (Ext.drew _)).trans hx).trans hx2)
      have hsz := hx.size
      have hsz0 : w.heap.size + 1 + 1 < w1.heap.size := Nat.lt_of_lt_of_le HX2.out.lt hsz
      go_wp2_with fail
      exact bodyPost_ret (v := dv d'.neg A2 (len d'.m) c2 d'.den) (by simp [results, Tryz.results170, go_sem, r0, r1, r2]) rfl (DyRes.end3 rfl HO.out HF.out (by omega) (by omega) hsz0)
end

/-! ### Dyh -/
section
open Go.RowKit

/-- Behind a call: a box that lies in the newest block. -/
theorem one_box {w w1 : World} {u0 u1 u2 : Value} {t : TypeId} (hx : Ext (w.alloc (.cells #[u0, u1, u2] t)) w1) : St w1 w.heap.size u0 u1 u2 ∧ w.heap.size < w1.heap.size ∧ Ext w w1 :=
  ⟨(St.new w u0 u1 u2 t).ext hx, ((St.new w u0 u1 u2 t).ext hx).lt, (Ext.alloc _ _).trans hx⟩

theorem sign_0 {d : DV} (h : d.m = 0) : signD d = 0 := by unfold signD; rw [if_pos h]
theorem sign_n {d : DV} (h : d.m ≠ 0) (hn : d.neg = true) : signD d = -1 := by unfold signD; rw [if_neg h, hn]; rfl
theorem sign_p {d : DV} (h : d.m ≠ 0) (hn : d.neg = false) : signD d = 1 := by unfold signD; rw [if_neg h, hn]; rfl
set_option maxRecDepth 100000 in
set_option maxHeartbeats 1000000 in
theorem sign_any {w : World} {neg : Bool} {A A' : Option Addr} {n c c' : Nat} {den : Int} {d : DV} (h : Dy w neg A n c den d A' c') : Calls Tryz.prog 63 #[dv neg A n c den] w fun e w' => e = .returned (I (signD d)) ∧ Ext w w' := by
  have H := Lib.hid h; clear h
  have HN : Hid (∀ w', Ext w w' → Calls Tryz.prog 62 #[dv neg A n c den] w' (NumRes (dv d.neg A' (len d.m) c' d.den) w')) := H.out.num
  have hl1 := H.out.lim
  by_cases hm : d.m = 0
  · have HR := Lib.hid (sign_0 hm)
    have hl : len d.m = 0 := len_eq_zero.2 hm
    clear hm H
    rw [hl] at HN
    go_enter Tryz.func63, Tryz.ntmps63
    go_wp2_with (go_at_call 62; refine (HN.out _ (Ext.alloc _ _)).mono ?_; rintro e w1 ⟨rfl, hx⟩; obtain ⟨⟨k0, k1, k2⟩, hz, hx1⟩ := one_box hx; have HX := Lib.hid hx1; obtain ⟨hc, hf⟩ := hx.old; clear hx hx1)
    go_ret
    exact ⟨by rw [HR.out]; rfl, ext_set3 HX.out (Nat.le_refl _) _ _ _⟩
  · have hl : ((len d.m : Int) == 0) = false := by
      have : len d.m ≠ 0 := fun e => hm (len_eq_zero.1 e)
      simp; omega
    cases hn : d.neg with
    | true =>
      have HR := Lib.hid (sign_n hm hn)
      rw [hn] at HN
      clear hm hn H
      go_enter Tryz.func63, Tryz.ntmps63
      go_wp2_with (go_at_call 62; refine (HN.out _ (Ext.alloc _ _)).mono ?_; rintro e w1 ⟨rfl, hx⟩; obtain ⟨⟨k0, k1, k2⟩, hz, hx1⟩ := one_box hx; have HX := Lib.hid hx1; obtain ⟨hc, hf⟩ := hx.old; clear hx hx1)
      go_ret
      exact ⟨by rw [HR.out]; rfl, ext_set3 HX.out (Nat.le_refl _) _ _ _⟩
    | false =>
      have HR := Lib.hid (sign_p hm hn)
      rw [hn] at HN
      clear hm hn H
      go_enter Tryz.func63, Tryz.ntmps63
      go_wp2_with (go_at_call 62; refine (HN.out _ (Ext.alloc _ _)).mono ?_; rintro e w1 ⟨rfl, hx⟩; obtain ⟨⟨k0, k1, k2⟩, hz, hx1⟩ := one_box hx; have HX := Lib.hid hx1; obtain ⟨hc, hf⟩ := hx.old; clear hx hx1)
      go_ret
      exact ⟨by rw [HR.out]; rfl, ext_set3 HX.out (Nat.le_refl _) _ _ _⟩

theorem shift_nrmI {d : DV} (h : d.ok) (k : Int) (h1 : -65536 ≤ k) (h2 : k ≤ 65536) : nrmI d.neg d.m (d.den - k) = if k < 0 then mkD d.neg d.m (d.den + (-k).toNat) else mkD d.neg (d.m * 2 ^ k.toNat) d.den := by
  by_cases hk : k < 0
  · rw [if_pos hk]
    rw [show (d.den : Int) - k = ((d.den + (-k).toNat : Nat) : Int) by omega, nrmI_nat]
  · rw [if_neg hk]
    obtain ⟨j, rfl⟩ : ∃ j : Nat, k = (j : Int) := ⟨k.toNat, by omega⟩
    have hd := h.2.1
    simp only [Int.toNat_natCast]
    rcases Nat.lt_or_ge d.den j with hj | hj
    · rw [show (d.den : Int) - (j : Int) = -((j - d.den : Nat) : Int) by omega, nrmI_neg (by omega)]
      refine DV.uniq (mkD_ok _ _ _) (mkD_ok _ _ _) ?_
      rw [q_mkD _ _ (by decide), q_mkD _ _ hd, ← qOf_shift d.neg (d.m * 2 ^ (j - d.den)) 0 d.den, Nat.mul_assoc, ← Nat.pow_add, Nat.zero_add, show j - d.den + d.den = j by omega]
    · rw [show (d.den : Int) - (j : Int) = ((d.den - j : Nat) : Int) by omega, nrmI_nat]
      refine DV.uniq (mkD_ok _ _ _) (mkD_ok _ _ _) ?_
      rw [q_mkD _ _ (by omega), q_mkD _ _ hd, ← qOf_shift d.neg d.m (d.den - j) j, show d.den - j + j = d.den by omega]
theorem shiftD_nrmI {d : DV} (h : d.ok) (n : Int) : shiftD d n = nrmI d.neg d.m (d.den - clampN n) := by
  have : -65536 ≤ clampN n ∧ clampN n ≤ 65536 := by unfold clampN; omega
  rw [shift_nrmI h _ this.1 this.2]; rfl

set_option maxRecDepth 100000 in
set_option maxHeartbeats 1000000 in
theorem shift_any {w : World} {neg : Bool} {A A' : Option Addr} {n c c' : Nat} {den : Int} {d : DV} (s : Int) (h : Dy w neg A n c den d A' c') (hT : Tabs w) (hs1 : -9223372036854775808 ≤ s) (hs2 : s ≤ 9223372036854775807) : Calls Tryz.prog 138 #[dv neg A n c den, I s] w (DyRes (shiftD d s) w) := by
  have H := Lib.hid h; have HT := Lib.hid hT; clear h hT
  have hd1 := H.out.wf.2.1
  have hl1 := H.out.lim
  obtain ⟨d', hd'⟩ : ∃ d', shiftD d s = d' := ⟨_, rfl⟩
  obtain ⟨k, hk⟩ : ∃ k, clampN s = k := ⟨_, rfl⟩
  have hk1 : -65536 ≤ k ∧ k ≤ 65536 := by rw [← hk]; unfold clampN; omega
  obtain ⟨hk1, hk2⟩ := hk1
  rw [hd']
  have HD' : Hid (nrmI d.neg d.m ((d.den : Int) - k) = d') := by show _ = _; rw [← hd', shiftD_nrmI H.out.wf, hk]
  have HK : Hid (clampN s = k) := hk
  clear hd' hk
  have h3 : s < -65536 ∨ 65536 < s ∨ (-65536 ≤ s ∧ s ≤ 65536) := by omega
  rcases h3 with h3 | h3 | ⟨h3, h4⟩
  all_goals
    go_enter Tryz.func138, Tryz.ntmps138
    go_wp2_with (go_at_call 62; refine (H.out.num _ ((Ext.alloc _ _).trans (Ext.alloc _ _))).mono ?_; rintro e w1 ⟨rfl, hx⟩; obtain ⟨⟨k0, k1, k2⟩, s1, hz, hx1⟩ := two_boxes hx; have S1 := Lib.hid s1; have HX := Lib.hid hx1; obtain ⟨hc, hf⟩ := hx.old; clear hx hx1 s1)
    have HW := Lib.hid (ext_set3 HX.out (Nat.le_refl _))
    refine (normal_at _ _ _ _ _ _ d' (by rw [← HD'.out]; congr 1; have := HK.out; unfold clampN at this; omega) (HT.out.ext (HW.out _ _ _)) (H.out.rd.ext (HW.out _ _ _)) H.out.sl (by omega) (by omega) (by omega)).mono ?_
    rintro e w2 ⟨A2, c2, rfl, hon, hx⟩
    obtain ⟨r0, r1, r2⟩ := (S1.out.far3 (by omega) _ _ _).ext hx
    obtain ⟨hc2, hf2⟩ := hx.old
    have HX2 := Lib.hid ((HW.out _ _ _).trans hx)
    have HO := Lib.hid hon
    clear hon hx
    go_wp2_with fail
    exact bodyPost_ret (v := dv d'.neg A2 (len d'.m) c2 d'.den) (by simp [results, Tryz.results138, go_sem, r0, r1, r2]) rfl (DyRes.end3 rfl HO.out HX2.out (by simp; omega) (by omega) (by simp; omega))

theorem ofI_nrmI (n : Int) (k : Nat) : nrmI (decide (n < 0)) n.natAbs (k : Int) = ofI n k := by rw [nrmI_nat]; rfl
theorem len_abs {n : Int} (h1 : -9223372036854775808 ≤ n) (h2 : n ≤ 9223372036854775807) : len n.natAbs ≤ 2 := len_le (by show _ < 4294967296 ^ 2; omega)

set_option maxRecDepth 100000 in
set_option maxHeartbeats 1000000 in
theorem of_any (n : Int) (w : World) (hT : Tabs w) (h1 : -9223372036854775808 ≤ n) (h2 : n ≤ 9223372036854775807) : Calls Tryz.prog 23 #[I n] w (DyRes (ofI n 0) w) := by
  have HT := Lib.hid hT; clear hT
  have HD' := Lib.hid (ofI_nrmI n 0)
  have hl := len_abs h1 h2
  generalize ofI n 0 = d' at *
  go_enter Tryz.func23, Tryz.ntmps23
  go_wp2_with (go_at_call 68; refine (ofInt_any n _ h1 h2).mono ?_; rintro e w1 ⟨A1, c1, rfl, hon, hx⟩; have s1 := (St.new w (.bool false) (.slice none 0 0) (I 0) 66).ext hx; have HX := Lib.hid ((Ext.alloc _ _).trans hx); obtain ⟨hc, hf⟩ := hx.old; have HON := Lib.hid hon; have S1 := Lib.hid s1; clear hon hx s1)
  refine (normal_at _ _ _ _ _ _ d' HD'.out (HT.out.ext HX.out) HON.out.rd HON.out.ok (by omega) (by omega) (by omega)).mono ?_
  rintro e w2 ⟨A2, c2, rfl, hon2, hx2⟩
  obtain ⟨r0, r1, r2⟩ := S1.out.ext hx2
  have hz := S1.out.lt
  obtain ⟨hc2, hf2⟩ := hx2.old
  have HX2 := Lib.hid (HX.out.trans hx2)
  have HO := Lib.hid hon2
  clear hon2 hx2
  go_wp2_with fail
  exact bodyPost_ret (v := dv d'.neg A2 (len d'.m) c2 d'.den) (by simp [results, Tryz.results23, go_sem, r0, r1, r2]) rfl (DyRes.end3 rfl HO.out HX2.out (Nat.le_of_lt hz) (Nat.le_refl _) hz)

/-- What a function returns that may fail: a number and no error. -/
def DyOk (d : DV) (w : World) (e : Ending) (w' : World) : Prop := ∃ A c, e = .returned (.tuple #[dv d.neg A (len d.m) c d.den, .nilIface]) ∧ On w' w.heap.size A (len d.m) c (dg d.m) ∧ Ext w w'
theorem DyOk.end3 {d : DV} {w W w2 : World} {A : Option Addr} {c g : Nat} {e : Ending} {u0 u1 u2 : Value} (he : e = .returned (.tuple #[dv d.neg A (len d.m) c d.den, .nilIface])) (hon : On w2 W.heap.size A (len d.m) c (dg d.m)) (hx : Ext w w2) (hW : w.heap.size ≤ W.heap.size) (hg : w.heap.size ≤ g) (hg2 : g < W.heap.size) :
    DyOk d w e (((w2.setCell ⟨g, 0, none⟩ u0).setCell ⟨g, 1, none⟩ u1).setCell ⟨g, 2, none⟩ u2) :=
  ⟨A, c, he, (hon.set3 hg2 _ _ _).mono hW, ext_set3 hx hg _ _ _⟩
def DyErr (k : Int) (w : World) (e : Ending) (w' : World) : Prop := e = .returned (.tuple #[dv false none 0 0 0, .iface 94 (I k)]) ∧ Ext w w'

end

/-! ### Dyi -/
section
open Go.RowKit

theorem len_one : len 1 = 1 := by rw [len_pos (by decide), show 1 / 4294967296 = 0 by decide, len_zero]
theorem ofInt_one (w : World) : Calls Tryz.prog 68 #[I 1] w (NatRes 1 w) := ofInt_any 1 w (by omega) (by omega)
theorem Dy.self {w : World} {neg : Bool} {A A' : Option Addr} {n c c' : Nat} {den : Int} {d : DV} (h : Dy w neg A n c den d A' c') : Dy w d.neg A' (len d.m) c' d.den d A' c' := Dy.valid h.rd h.sl h.wf h.lim
theorem DyOk.of {d : DV} {w W w2 : World} {A : Option Addr} {c : Nat} {e : Ending} (he : e = .returned (.tuple #[dv d.neg A (len d.m) c d.den, .nilIface])) (hon : On w2 W.heap.size A (len d.m) c (dg d.m)) (hx : Ext w w2) (hW : w.heap.size ≤ W.heap.size) : DyOk d w e w2 := ⟨A, c, he, hon.mono hW, hx⟩
theorem len_succ (m : Nat) : len (m + 1) ≤ len m + 1 := by
  refine len_le ?_
  have := lt_pB_len m
  have := pB_pos (len m)
  rw [pB_succ]; omega
/-- Behind a call: a box and a result, both one's own. -/
theorem two_bx {w w1 : World} {u0 u1 u2 v0 v1 v2 : Value} {t t' : TypeId} (hx : Ext ((w.alloc (.cells #[u0, u1, u2] t)).alloc (.cells #[v0, v1, v2] t')) w1) :
    Bx w1 w.heap.size u0 u1 u2 ∧ Bx w1 (w.heap.size + 1) v0 v1 v2 ∧ Ext w w1 := by
  have s1 := ((Bx.new w u0 u1 u2 t).ext (Ext.alloc _ (.cells #[v0, v1, v2] t'))).ext hx
  have s2 := Bx.new (w.alloc (.cells #[u0, u1, u2] t)) v0 v1 v2 t'
  rw [show (w.alloc (.cells #[u0, u1, u2] t)).heap.size = w.heap.size + 1 by simp] at s2
  exact ⟨s1, s2.ext hx, ((Ext.alloc _ _).trans (Ext.alloc _ _)).trans hx⟩
/-- What 'a = number(a)' leaves. -/
def One (w : World) (a : DV) (A : Option Addr) (ca : Nat) (wx : World) : Prop :=
  Ext w wx ∧ Bx wx w.heap.size (.bool a.neg) (.slice A (len a.m) ca) (I a.den) ∧ Bx wx (w.heap.size + 1) (.bool false) (.slice none 0 0) (I 0)
theorem one_of {w w1 : World} {a : DV} {A : Option Addr} {ca : Nat} {u0 u1 u2 : Value} {t t' : TypeId} (hx : Ext ((w.alloc (.cells #[u0, u1, u2] t)).alloc (.cells #[.bool false, .slice none 0 0, I 0] t')) w1) :
    One w a A ca (((w1.setCell ⟨w.heap.size, 0, none⟩ (.bool a.neg)).setCell ⟨w.heap.size, 1, none⟩ (.slice A (len a.m) ca)).setCell ⟨w.heap.size, 2, none⟩ (I a.den)) := by
  obtain ⟨h1, h2, h3⟩ := two_bx hx
  exact ⟨ext_set3 h3 (Nat.le_refl _) _ _ _, h1.set3 _ _ _, h2.far3 (by omega) _ _ _⟩
theorem keepO {w w0 w' : World} {a : DV} {A : Option Addr} {ca : Nat} (h : One w a A ca w0) (e : Ext w0 w') : One w a A ca w' := ⟨h.1.trans e, h.2.1.ext e, h.2.2.ext e⟩
theorem floor_small {d : DV} {k : Nat} (h : d.den ≤ k) : floorD d k = d := by unfold floorD; rw [if_pos h]
theorem floor_big {d : DV} {k : Nat} (h : k < d.den) : floorD d k = mkD d.neg (d.m / 2 ^ (d.den - k) + if d.neg then 1 else 0) k := by unfold floorD; rw [if_neg (by omega)]

end

/-! ### Dyj -/
section
open Go.RowKit
attribute [local go_sem ↓] Go.wp_at_zero Go.wp_at_succ

def AlRes (x y D : Nat) (w : World) (e : Ending) (w' : World) : Prop :=
  ∃ A1 c1 A2 c2, e = .returned (.tuple #[.slice A1 (len x) c1, .slice A2 (len y) c2, I D]) ∧ On w' w.heap.size A1 (len x) c1 (dg x) ∧ On w' w.heap.size A2 (len y) c2 (dg y) ∧ Ext w w'
theorem len_shl (m n : Nat) : len (m * 2 ^ n) ≤ len m + (n / 32 + 1) := by
  have h := len_mul m (2 ^ n)
  have : len (2 ^ n) ≤ n / 32 + 1 := by
    refine len_le ?_
    rw [pB_two]
    exact Nat.pow_lt_pow_right (by decide) (by omega)
  omega
set_option maxRecDepth 100000 in
set_option maxHeartbeats 1000000 in
theorem aligned_any {w : World} {a b : DV} {A B : Option Addr} {ca cb : Nat} (hA : Rd w A (len a.m) (dg a.m)) (hB : Rd w B (len b.m) (dg b.m)) (da : a.den ≤ 65536) (db : b.den ≤ 65536) (la : len a.m ≤ 16777216) (lb : len b.m ≤ 16777216) :
    Calls Tryz.prog 65 #[dv a.neg A (len a.m) ca a.den, dv b.neg B (len b.m) cb b.den] w (AlRes (al a (max a.den b.den)) (al b (max a.den b.den)) (max a.den b.den) w) := by
  have HA := Lib.hid hA; have HB := Lib.hid hB; clear hA hB
  obtain ⟨D, hD⟩ : ∃ D, max a.den b.den = D := ⟨_, rfl⟩
  have d1 : a.den ≤ D := by omega
  have d2 : b.den ≤ D := by omega
  have d3 : D ≤ 65536 := by omega
  have d4 : a.den < b.den → D = b.den := by omega
  have d5 : ¬ a.den < b.den → D = a.den := by omega
  rw [hD]
  have hD' := hD
  clear hD
  obtain ⟨sa, hsa⟩ : ∃ sa, D - a.den = sa := ⟨_, rfl⟩
  obtain ⟨sb, hsb⟩ : ∃ sb, D - b.den = sb := ⟨_, rfl⟩
  have ea : IntKind.i64.wrap ((D : Int) - (a.den : Int)) = (sa : Int) := by rw [IntWalk.i64_in _ (by omega)]; omega
  have eb : IntKind.i64.wrap ((D : Int) - (b.den : Int)) = (sb : Int) := by rw [IntWalk.i64_in _ (by omega)]; omega
  have hsa2 : sa ≤ 65536 := by omega
  have hsb2 : sb ≤ 65536 := by omega
  unfold al
  rw [hsa, hsb]
  have em : (if a.den < b.den then (b.den : Int) else (a.den : Int)) = (D : Int) := by split <;> omega
  obtain ⟨X0, X1, XE⟩ : Bx ((w.alloc (.cells #[.bool a.neg, .slice A (len a.m) ca, I a.den] 66)).alloc (.cells #[.bool b.neg, .slice B (len b.m) cb, I b.den] 66)) w.heap.size (.bool a.neg) (.slice A (len a.m) ca) (I a.den) ∧
      Bx ((w.alloc (.cells #[.bool a.neg, .slice A (len a.m) ca, I a.den] 66)).alloc (.cells #[.bool b.neg, .slice B (len b.m) cb, I b.den] 66)) (w.heap.size + 1) (.bool b.neg) (.slice B (len b.m) cb) (I b.den) ∧
      Ext w ((w.alloc (.cells #[.bool a.neg, .slice A (len a.m) ca, I a.den] 66)).alloc (.cells #[.bool b.neg, .slice B (len b.m) cb, I b.den] 66)) := two_bx (Ext.refl _)
  have HX0 := Lib.hid X0; have HX1 := Lib.hid X1; have HXE := Lib.hid XE
  clear X0 X1 XE hsa hsb d4 d5 hD'
  go_enter Tryz.func65, Tryz.ntmps65
  go_upto_region 2 with fail
  obtain ⟨k0, k1, k2, k3, k4, k5⟩ := keepB HX0.out HX1.out (Ext.refl _)
  go_region_held3 (fun w' => w'.cell? ⟨w.heap.size, 0, none⟩ = some (.bool a.neg) ∧ w'.cell? ⟨w.heap.size, 1, none⟩ = some (.slice A (len a.m) ca) ∧ w'.cell? ⟨w.heap.size, 2, none⟩ = some (I a.den) ∧ w'.cell? ⟨w.heap.size + 1, 0, none⟩ = some (.bool b.neg) ∧ w'.cell? ⟨w.heap.size + 1, 1, none⟩ = some (.slice B (len b.m) cb) ∧ w'.cell? ⟨w.heap.size + 1, 2, none⟩ = some (I b.den))
    (first
      | go_keep
      | (exact keepB HX0.out HX1.out (by repeat (first | exact Ext.refl _ | assumption | refine Ext.trans ?_ (Ext.drew _) | refine Ext.trans ?_ (by assumption)))))
    (first
      | (go_at_call_of 119 (Value.slice A (len a.m) ca); (with_reducible refine (shiftLeft_any A a.m sa ca _ (HA.out.ext (HXE.out.trans (by repeat (first | exact Ext.refl _ | assumption | refine Ext.trans ?_ (Ext.drew _) | refine Ext.trans ?_ (by assumption))))) (by omega) (by omega)).mono ?_); rintro e wa ⟨A1, c1, rfl, hon1, hx1⟩; obtain ⟨q0, q1, q2, q3, q4, q5⟩ := keepB HX0.out HX1.out (w' := wa) (by repeat (first | exact Ext.refl _ | assumption | refine Ext.trans ?_ (Ext.drew _) | refine Ext.trans ?_ (by assumption))))
      | (go_at_call_of 119 (Value.slice B (len b.m) cb); (with_reducible refine (shiftLeft_any B b.m sb cb _ (HB.out.ext (HXE.out.trans (by repeat (first | exact Ext.refl _ | assumption | refine Ext.trans ?_ (Ext.drew _) | refine Ext.trans ?_ (by assumption))))) (by omega) (by omega)).mono ?_); rintro e wb ⟨A2, c2, rfl, hon2, hx2⟩; obtain ⟨p0, p1, p2, p3, p4, p5⟩ := keepB HX0.out HX1.out (w' := wb) (by repeat (first | exact Ext.refl _ | assumption | refine Ext.trans ?_ (Ext.drew _) | refine Ext.trans ?_ (by assumption)))))
  all_goals
    have hs0 := HXE.out.size
    have hs1 := hx1.size
    have hs2 := hx2.size
    clear q0 q1 q2 q3 q4 q5 p0 p1 p2 p3 p4 p5 k0 k1 k2 k3 k4 k5
    go_wp2_with fail
    go_ret3
    first
      | exact ⟨A1, c1, A2, c2, rfl, (hon1.ext hx2).mono hs0, hon2.mono (Nat.le_trans hs0 hs1), (HXE.out.trans (Ext.drew _)).trans (hx1.trans hx2)⟩
      | exact ⟨A1, c1, A2, c2, rfl, hon1.mono (Nat.le_trans hs0 hs2), (hon2.ext hx1).mono hs0, (HXE.out.trans (Ext.drew _)).trans (hx2.trans hx1)⟩

theorem cmp_ne {x y : Int} (h : x ≠ y) : cmpI x y = if x < y then -1 else 1 := by
  unfold cmpI; split
  · rfl
  · rw [if_pos (by omega)]
end
end

/-! ### Dyk -/
section
open Go.RowKit
attribute [local go_sem ↓] Go.wp_at_zero Go.wp_at_succ

def TwoC (w : World) (a b : DV) (A B : Option Addr) (ca cb : Nat) (wx : World) : Prop :=
  Ext w wx ∧ Bx wx w.heap.size (.bool a.neg) (.slice A (len a.m) ca) (I a.den) ∧ Bx wx (w.heap.size + 1) (.bool b.neg) (.slice B (len b.m) cb) (I b.den)
theorem twoC_of {w W0 W : World} {a b : DV} {A B : Option Addr} {ca cb : Nat} {a0 a1 a2 b0 b1 b2 : Value} (h0 : Bx W0 w.heap.size a0 a1 a2) (h1 : Bx W0 (w.heap.size + 1) b0 b1 b2) (hw : Ext w W0) (hx : Ext W0 W) :
    TwoC w a b A B ca cb ((((((W.setCell ⟨w.heap.size, 0, none⟩ (.bool a.neg)).setCell ⟨w.heap.size, 1, none⟩ (.slice A (len a.m) ca)).setCell ⟨w.heap.size, 2, none⟩ (I a.den)).setCell ⟨w.heap.size + 1, 0, none⟩ (.bool b.neg)).setCell ⟨w.heap.size + 1, 1, none⟩ (.slice B (len b.m) cb)).setCell ⟨w.heap.size + 1, 2, none⟩ (I b.den)) :=
  ⟨ext_set3 (ext_set3 (hw.trans hx) (Nat.le_refl _) _ _ _) (by omega) _ _ _, ((h0.ext hx).set3 _ _ _).far3 (by omega) _ _ _, ((h1.ext hx).far3 (by omega) _ _ _).set3 _ _ _⟩

theorem cmp_ne_val {a b : DV} (ha : a.ok) (hb : b.ok) (h : signD a ≠ signD b) : cmpI (signD a) (signD b) = cmpD a b := by rw [cmpD_signs ha hb h, cmp_ne h]

set_option maxRecDepth 100000 in
set_option maxHeartbeats 1000000 in
theorem cmp_any {w : World} {na nb : Bool} {A A' B B' : Option Addr} {n c c' k e e' : Nat} {da db : Int} {a b : DV} (ha : Dy w na A n c da a A' c') (hb' : Dy w nb B k e db b B' e') :
    Calls Tryz.prog 22 #[dv na A n c da, dv nb B k e db] w fun e w' => e = .returned (I (cmpD a b)) ∧ Ext w w' := by
  have HA := Lib.hid ha; have HB := Lib.hid hb'; clear ha hb'
  obtain ⟨X0, X1, XE⟩ : Bx ((w.alloc (.cells #[.bool na, .slice A n c, I da] 66)).alloc (.cells #[.bool nb, .slice B k e, I db] 66)) w.heap.size (.bool na) (.slice A n c) (I da) ∧
      Bx ((w.alloc (.cells #[.bool na, .slice A n c, I da] 66)).alloc (.cells #[.bool nb, .slice B k e, I db] 66)) (w.heap.size + 1) (.bool nb) (.slice B k e) (I db) ∧
      Ext w ((w.alloc (.cells #[.bool na, .slice A n c, I da] 66)).alloc (.cells #[.bool nb, .slice B k e, I db] 66)) := two_bx (Ext.refl _)
  have HX0 := Lib.hid X0; have HX1 := Lib.hid X1; have HXE := Lib.hid XE
  clear X0 X1 XE
  go_enter Tryz.func22, Tryz.ntmps22
  go_upto_region 1 with fail
  go_cut [] (fun wx => TwoC w a b A' B' c' e' wx)
  case first =>
    go_region_with ((first | (go_at_call 62; refine (HA.out.num _ (HXE.out.trans (by repeat (first | exact Ext.refl _ | assumption | refine Ext.trans ?_ (Ext.drew _) | refine Ext.trans ?_ (by assumption))))).mono ?_; rintro e wa ⟨rfl, hxa⟩; have ga0 := (HX0.out.ext (w' := wa) (by repeat (first | exact Ext.refl _ | assumption | refine Ext.trans ?_ (Ext.drew _) | refine Ext.trans ?_ (by assumption)))).2; have ga1 := (HX1.out.ext (w' := wa) (by repeat (first | exact Ext.refl _ | assumption | refine Ext.trans ?_ (Ext.drew _) | refine Ext.trans ?_ (by assumption)))).2; obtain ⟨ka0, ka1, ka2, ka3, ka4, ka5⟩ := keepB HX0.out HX1.out (w' := wa) (by repeat (first | exact Ext.refl _ | assumption | refine Ext.trans ?_ (Ext.drew _) | refine Ext.trans ?_ (by assumption)))) | (go_at_call 62; refine (HB.out.num _ (HXE.out.trans (by repeat (first | exact Ext.refl _ | assumption | refine Ext.trans ?_ (Ext.drew _) | refine Ext.trans ?_ (by assumption))))).mono ?_; rintro e wb ⟨rfl, hxb⟩; have gb0 := (HX0.out.ext (w' := wb) (by repeat (first | exact Ext.refl _ | assumption | refine Ext.trans ?_ (Ext.drew _) | refine Ext.trans ?_ (by assumption)))).2; have gb1 := (HX1.out.ext (w' := wb) (by repeat (first | exact Ext.refl _ | assumption | refine Ext.trans ?_ (Ext.drew _) | refine Ext.trans ?_ (by assumption)))).2; obtain ⟨kb0, kb1, kb2, kb3, kb4, kb5⟩ := keepB HX0.out HX1.out (w' := wb) (by repeat (first | exact Ext.refl _ | assumption | refine Ext.trans ?_ (Ext.drew _) | refine Ext.trans ?_ (by assumption))))))
    all_goals
      go_wp2_with fail
      go_meet
      exact twoC_of HX0.out HX1.out HXE.out (by repeat (first | exact Ext.refl _ | assumption | refine Ext.trans ?_ (Ext.drew _) | refine Ext.trans ?_ (by assumption)))
  case rest =>
    clear HX0 HX1 HXE
    obtain ⟨hE, X0, X1⟩ := hcut
    have HX0 := Lib.hid X0; have HX1 := Lib.hid X1; have HE := Lib.hid hE
    clear X0 X1 hE
    obtain ⟨k0, k1, k2, k3, k4, k5⟩ := keepB HX0.out HX1.out (Ext.refl _)
    have l0 := HX0.out.lt
    have l1 := HX1.out.lt
    have HSA : Hid (∀ w', Ext w w' → Calls Tryz.prog 63 #[dv a.neg A' (len a.m) c' a.den] w' fun e w'' => e = .returned (I (signD a)) ∧ Ext w' w'') := fun w' e => sign_any (HA.out.self.ext e)
    have HSB : Hid (∀ w', Ext w w' → Calls Tryz.prog 63 #[dv b.neg B' (len b.m) e' b.den] w' fun e w'' => e = .returned (I (signD b)) ∧ Ext w' w'') := fun w' e => sign_any (HB.out.self.ext e)
    have hb := Ext.refl wc
    obtain ⟨hc, hf⟩ := hb.old
    by_cases hs : signD a = signD b
    · have h1 : (signD a != signD b) = false := by simpa using hs
      have HC := Lib.hid (cmpD_same HA.out.wf HB.out.wf hs)
      have HAL : Hid (∀ w', Ext w w' → Calls Tryz.prog 65 #[dv a.neg A' (len a.m) c' a.den, dv b.neg B' (len b.m) e' b.den] w' (AlRes (al a (max a.den b.den)) (al b (max a.den b.den)) (max a.den b.den) w')) := fun w' e => aligned_any (HA.out.rd.ext e) (HB.out.rd.ext e) HA.out.wf.2.1 HB.out.wf.2.1 HA.out.lim HB.out.lim
      have hlx : len (al a (max a.den b.den)) ≤ 1073741824 := by
        have h1 := len_shl a.m (max a.den b.den - a.den)
        have h2 := HA.out.lim; have h3 := HA.out.wf.2.1; have h4 := HB.out.wf.2.1
        unfold al; omega
      have hly : len (al b (max a.den b.den)) ≤ 1073741824 := by
        have h1 := len_shl b.m (max a.den b.den - b.den)
        have h2 := HB.out.lim; have h3 := HA.out.wf.2.1; have h4 := HB.out.wf.2.1
        unfold al; omega
      generalize al a (max a.den b.den) = x at *
      generalize al b (max a.den b.den) = y at *
      generalize max a.den b.den = D at *
      clear hs
      generalize signD a = sa at *
      generalize signD b = sb at *
      go_upto_region 2 with fail
      have hL := fun (x : Later _) => (Ext.trans hb x.ext).old.1
      refine wp_region_later (by kernel_rfl) (by kernel_rfl) ?_
      repeat (go_big_quiet_step ((first | (go_at_call_of 63 (Value.agg #[.bool a.neg, .slice A' (len a.m) c', I a.den]); exact Calls.later (HSA.out _ (HE.out.trans (Ext.trans hb (Later.ext _))))) | (go_at_call_of 63 (Value.agg #[.bool b.neg, .slice B' (len b.m) e', I b.den]); exact Calls.later (HSB.out _ (HE.out.trans (Ext.trans hb (Later.ext _))))))))
      refine wpQuiet_nil ?_
      intro w2 hw2
      replace hb := Ext.trans hb (Later.of hw2)
      clear hw2 hL
      obtain ⟨hc, hf⟩ := hb.old
      go_wp2_with (first
        | (go_at_call 65; refine (HAL.out _ (HE.out.trans hb)).mono ?_; rintro e w3 ⟨A1, c1, A2, c2, rfl, hon1, hon2, hx⟩; have HO1 := Lib.hid hon1; have HO2 := Lib.hid hon2; clear hon1 hon2; replace hb := Ext.trans hb hx; clear hx hc hf; obtain ⟨hc, hf⟩ := hb.old)
        | (go_at_call_of 66 (Value.slice A1 (len x) c1); (with_reducible refine (compare_any A1 A2 x y c1 c2 _ HO1.out.rd HO2.out.rd hlx).mono ?_); rintro e w4 ⟨rfl, hx⟩)
        | (go_at_call_of 66 (Value.slice A1 (len x) c1); (with_reducible refine (compare_any A2 A1 y x c2 c1 _ HO2.out.rd HO1.out.rd hly).mono ?_); rintro e w4 ⟨rfl, hx⟩))
      all_goals
        go_ret
        refine ⟨?_, HE.out.trans (hb.trans hx)⟩
        have := HC.out
        simp [*]
    · have h1 : (signD a != signD b) = true := by simpa using hs
      have HC := Lib.hid (cmp_ne_val HA.out.wf HB.out.wf hs)
      clear hs
      generalize signD a = sa at *
      generalize signD b = sb at *
      go_upto_region 2 with fail
      have hL := fun (x : Later _) => (Ext.trans hb x.ext).old.1
      refine wp_region_later (by kernel_rfl) (by kernel_rfl) ?_
      repeat (go_big_quiet_step ((first | (go_at_call_of 63 (Value.agg #[.bool a.neg, .slice A' (len a.m) c', I a.den]); exact Calls.later (HSA.out _ (HE.out.trans (Ext.trans hb (Later.ext _))))) | (go_at_call_of 63 (Value.agg #[.bool b.neg, .slice B' (len b.m) e', I b.den]); exact Calls.later (HSB.out _ (HE.out.trans (Ext.trans hb (Later.ext _))))))))
      refine wpQuiet_nil ?_
      intro w2 hw2
      replace hb := Ext.trans hb (Later.of hw2)
      clear hw2 hL
      obtain ⟨hc, hf⟩ := hb.old
      go_wp2_with fail
      have hL := fun (x : Later _) => (Ext.trans hb x.ext).old.1
      refine wp_region_later (by kernel_rfl) (by kernel_rfl) ?_
      repeat (go_big_quiet_step ((first | (go_at_call_of 63 (Value.agg #[.bool a.neg, .slice A' (len a.m) c', I a.den]); exact Calls.later (HSA.out _ (HE.out.trans (Ext.trans hb (Later.ext _))))) | (go_at_call_of 63 (Value.agg #[.bool b.neg, .slice B' (len b.m) e', I b.den]); exact Calls.later (HSB.out _ (HE.out.trans (Ext.trans hb (Later.ext _))))) | (go_at_call 64; exact Calls.later (Calls.same_ext (cmpInt_any _ _ _))))))
      refine wpQuiet_nil ?_
      intro w2 hw2
      replace hb := Ext.trans hb (Later.of hw2)
      clear hw2 hL
      obtain ⟨hc, hf⟩ := hb.old
      go_wp2_with fail
      go_ret
      exact ⟨by rw [← HC.out]; rfl, HE.out.trans hb⟩
end

end Go.Proofs.YtkocmdpfknoiaaaGreatDoor
