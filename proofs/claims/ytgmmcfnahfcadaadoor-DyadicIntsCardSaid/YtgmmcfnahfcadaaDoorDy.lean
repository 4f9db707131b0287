/- Numbers as structs: normal. -/
import Derived.Test.YtgmmcfnahfcadaaDoorNati
import Derived.Test.YtgmmcfnahfcadaaDoorBige
namespace Go.Proofs.YtgmmcfnahfcadaaDoor
open Go.RowKit

abbrev dv (neg : Bool) (A : Option Addr) (n c : Nat) (den : Int) : Value := .agg #[.bool neg, .slice A n c, I den]
/-- What a function on numbers returns: new memory that reads as d. -/
def DyRes (d : DV) (w : World) (e : Ending) (w' : World) : Prop := ∃ A c, e = .returned (dv d.neg A (len d.m) c d.den) ∧ On w' w.heap.size A (len d.m) c (dg d.m) ∧ Ext w w'
theorem DyRes.zero {w w' : World} (h : Ext w w') : DyRes DV.zero w (.returned (dv false none 0 0 0)) w' :=
  ⟨none, 0, by show _ = Ending.returned (dv false none (len 0) 0 0); rw [len_zero], by show On _ _ _ (len 0) 0 _; rw [len_zero]; exact On.nil _ _ _, h⟩

theorem DyRes.of {d : DV} {neg : Bool} {x t c b : Nat} {A : Option Addr} {w w' : World} (hd : d = ⟨neg, x, t⟩) (hr : On w' b A (len x) c (dg x)) (hb : w.heap.size ≤ b) (hx : Ext w w') : DyRes d w (.returned (dv neg A (len x) c t)) w' := by
  subst hd; exact ⟨A, c, rfl, hr.mono hb, hx⟩
theorem fr_set (w : World) (g i : Nat) (u : Value) : w.grownBy (w.setCell ⟨g, i, none⟩ u) (some g) :=
  ⟨rfl, rfl, rfl, by simp, fun k _ hk => Below.heap_setCell w _ u k (fun e => hk (by simp [e]))⟩
theorem Rd.set {w : World} {A : Option Addr} {n g : Nat} {f : Nat → Nat} (h : Rd w A n f) (hne : ∀ a, A = some a → a.block ≠ g) (i : Nat) (u : Value) : Rd (w.setCell ⟨g, i, none⟩ u) A n f := h.fr (fr_set w g i u) hne
theorem On.ne {w : World} {base n c g : Nat} {A : Option Addr} {f : Nat → Nat} (h : On w base A n c f) (hg : g < base) : ∀ a, A = some a → a.block ≠ g := by
  rintro a rfl
  obtain ⟨e, _⟩ | ⟨g', e, hr⟩ := h.cases
  · cases e
  · injection e with e; subst e; have := hr.lt.1; show g' ≠ g; omega

theorem On.base1 {w w0 : World} {o : Obj} {n c : Nat} {A : Option Addr} {f : Nat → Nat} (h : On w (w0.alloc o).heap.size A n c f) : On w (w0.heap.size + 1) A n c f := by
  rw [show (w0.alloc o).heap.size = w0.heap.size + 1 by simp] at h; exact h
theorem On.set {w : World} {b n c g : Nat} {A : Option Addr} {f : Nat → Nat} (h : On w b A n c f) (hg : g < b) (i : Nat) (u : Value) : On (w.setCell ⟨g, i, none⟩ u) b A n c f := by
  refine World.ownsRow.kept h (fr_set w g i u) ?_
  obtain ⟨rfl, _⟩ | ⟨g', rfl, hr⟩ := h.cases
  · exact .inl rfl
  · refine .inr ?_
    have := hr.lt.1
    simp [Value.ownBlock]; omega

def nrmI (neg : Bool) (m : Nat) (den : Int) : DV := if den < 0 then mkD neg (m * 2 ^ (-den).toNat) 0 else mkD neg m den.toNat
theorem nrmI_neg {neg : Bool} {m : Nat} {k : Nat} (h : 0 < k) : nrmI neg m (-(k : Int)) = mkD neg (m * 2 ^ k) 0 := by
  unfold nrmI; rw [if_pos (by omega)]; simp
theorem nrmI_nat {neg : Bool} {m : Nat} {k : Nat} : nrmI neg m (k : Int) = mkD neg m k := by
  unfold nrmI; rw [if_neg (by omega)]; simp
theorem nrmI_zero {neg : Bool} {den : Int} : nrmI neg 0 den = DV.zero := by
  unfold nrmI mkD
  split
  · rw [if_pos (by decide), Nat.zero_mul, nrm_zero]
  · split
    · rw [nrm_zero]
    · rw [Nat.zero_div, nrm_zero]
theorem nrm0 {neg : Bool} {m : Nat} (h : m ≠ 0) : nrm neg m 0 = ⟨neg, m, 0⟩ := by rw [nrm_pos _ _ h]; simp [hv]

set_option maxRecDepth 100000 in
set_option maxHeartbeats 1000000 in
theorem normal_mid (neg : Bool) (A : Option Addr) (m ca k : Nat) (w : World) (hT : Tabs w) (ha : Rd w A (len m) (dg m)) (oa : SlOk A (len m) ca) (hL : len m ≤ 33554432) (hk : k ≤ 65536) :
    Calls Tryd.prog 71 #[.bool neg, .slice A (len m) ca, I k] w (DyRes (mkD neg m k) w) := by
  rw [mkD_small hk]
  have HA := Lib.hid ha; clear ha
  have OA := Lib.hid oa; clear oa
  have HT := Lib.hid hT; clear hT
  by_cases hm : m = 0
  · subst hm
    rw [nrm_zero]
    rw [len_zero]
    clear hL
    go_enter Tryd.func71, Tryd.ntmps71
    go_wp2
    exact bodyPost_ret (v := dv false none 0 0 0) (by simp [results, Tryd.results71, go_sem]) rfl (DyRes.zero (Ext.alloc _ _))
  · rw [nrm_pos _ _ hm]
    have HM := Lib.hid hm
    have hlp := Lib.hid (hv_div_pos (k := k) hm)
    have hle := hv_le m k
    have h0 : len m ≠ 0 := fun e => hm (len_eq_zero.1 e)
    have hl0 : ((len m : Int) == 0) = false := by simp; omega
    clear hm h0
    go_enter Tryd.func71, Tryd.ntmps71
    go_wp2_with (go_at_call 104; refine (trailingZeros_any A m ca _ (HT.out.ext (Ext.alloc _ _)) (HA.out.ext (Ext.alloc _ _)) HM.out (by omega)).mono ?_; rintro e w1 ⟨T, rfl, hz, hTl, rfl⟩)
    · have e : hv m k = k := by rw [isTz_hv hz]; omega
      rw [e] at hlp
      obtain ⟨t, ht⟩ : ∃ t, k - k = t := ⟨_, rfl⟩
      have et : (k : Int) - (k : Int) = (t : Int) := by omega
      have HE : Hid ((⟨neg, m / 2 ^ hv m k, k - hv m k⟩ : DV) = ⟨neg, m / 2 ^ k, t⟩) := by
        show _ = _
        rw [e, ht]
      clear e ht hz hle
      refine (shiftRight_any A m k ca _ (HA.out.ext (Ext.alloc _ _)) OA.out (by omega) (by omega)).mono ?_
      rintro e w2 ⟨A1, c1, rfl, hon, hx⟩
      have hON := Lib.hid (On.base1 hon)
      obtain ⟨hc, hf⟩ := hx.old
      have hXX : Hid (Ext w w2) := (Ext.alloc _ _).trans hx
      clear hon hx
      go_wp2
      exact bodyPost_ret (v := dv neg A1 (len (m / 2 ^ k)) c1 t) (by simp [results, Tryd.results71, go_sem, hc]) rfl (DyRes.of (b := w.heap.size + 1) HE.out (by repeat (first | exact hON.out | refine On.set ?_ (by omega) _ _)) (by omega) (by repeat (first | exact hXX.out | refine Ext.set ?_ (Nat.le_refl _) _)))
    · have e : hv m k = T := by rw [isTz_hv hz]; omega
      rw [e] at hlp
      obtain ⟨t, ht⟩ : ∃ t, k - T = t := ⟨_, rfl⟩
      have et : (k : Int) - (T : Int) = (t : Int) := by omega
      have HE : Hid ((⟨neg, m / 2 ^ hv m k, k - hv m k⟩ : DV) = ⟨neg, m / 2 ^ T, t⟩) := by
        show _ = _
        rw [e, ht]
      clear e ht hz hle
      refine (shiftRight_any A m T ca _ (HA.out.ext (Ext.alloc _ _)) OA.out (by omega) (by omega)).mono ?_
      rintro e w2 ⟨A1, c1, rfl, hon, hx⟩
      have hON := Lib.hid (On.base1 hon)
      obtain ⟨hc, hf⟩ := hx.old
      have hXX : Hid (Ext w w2) := (Ext.alloc _ _).trans hx
      clear hon hx
      go_wp2
      exact bodyPost_ret (v := dv neg A1 (len (m / 2 ^ T)) c1 t) (by simp [results, Tryd.results71, go_sem, hc]) rfl (DyRes.of (b := w.heap.size + 1) HE.out (by repeat (first | exact hON.out | refine On.set ?_ (by omega) _ _)) (by omega) (by repeat (first | exact hXX.out | refine Ext.set ?_ (Nat.le_refl _) _)))

end Go.Proofs.YtgmmcfnahfcadaaDoor
