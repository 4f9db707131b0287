/- The reference's number. -/
import Derived.Test.YtcdkkohklhmpgaaGreatDoorMref
import Derived.Test.YtcdkkohklhmpgaaGreatDoorMdyf
namespace Go.Proofs.YtcdkkohklhmpgaaGreatDoor

/-! ### Reff -/
section
open Go.RowKit

theorem news_rd {w : World} {ad : Addr} {n : Nat} {f : Nat → Nat} (hr : Rd w (some ad) n f) (t : TypeId) : ∀ j u, (wl f n)[j]? = some u → (w.alloc (.cells #[] t)).cell? (ad.add j) = some u := by
  intro j u hj
  by_cases hjn : j < n
  · obtain ⟨b, o, e, hb, hc⟩ := hr (by omega)
    injection e with e
    subst e
    rw [wl_get _ hjn] at hj
    injection hj with hj
    subst hj
    rw [World.cell?_alloc_lt _ _ _ (by unfold Addr.add; split <;> exact hb)]
    have := hc j hjn
    unfold Addr.add; split
    · rename_i h0; subst h0; exact this
    · exact this
  · rw [List.getElem?_eq_none (by rw [wl_len]; omega)] at hj; cases hj
theorem slice_of_owns {w : World} {b n : Nat} {v : Value} {l : List Value} (h : w.ownsRow b 153 1 v n l) : ∃ A' c', v = .slice A' n c' := by
  rcases h.2 with ⟨rfl, hz⟩ | ⟨g, cap, cur, rfl, _⟩
  · exact ⟨none, 0, by rw [hz]⟩
  · exact ⟨_, _, rfl⟩
theorem on_some {w : World} {b n c : Nat} {A : Option Addr} {f : Nat → Nat} (h : On w b A n c f) (h0 : n ≠ 0) : ∃ g, A = some ⟨g, 0, none⟩ := by
  rcases h.cases with ⟨_, e, _⟩ | ⟨g, rfl, _⟩
  · exact absurd e h0
  · exact ⟨g, rfl⟩
theorem rd_val {w : World} {A : Option Addr} {n m : Nat} {f : Nat → Nat} (h : Rd w A n f) (hb : ∀ i, i < n → f i < 4294967296) (hv : valN f n = m) : Rd w A (len m) (dg m) := fun h0 => by
  subst hv
  have hl := len_le (valN_lt hb)
  obtain ⟨b, o, rfl, hbw, hc⟩ := h (by omega)
  exact ⟨b, o, rfl, hbw, fun i hi => by rw [hc i (by omega), dg_valN hb (by omega)]⟩

set_option maxRecDepth 100000 in
set_option maxHeartbeats 4000000 in
theorem rnumber_fine (neg : Bool) (A : Option Addr) (n c k m : Nat) (f : Nat → Nat) (w : World) (ha : Rd w A n f) (oa : SlOk A n c) (hb : ∀ i, i < n → f i < 4294967296) (hv' : valN f n = m) (hn : n ≤ 33554432) (hk2 : k ≤ 1073741824) (hm : m ≠ 0) (hk : k - hv m k ≤ 65536) :
    Calls Tryz.prog 120 #[.bool neg, .slice A n c, I k] w (DyRes (mkD neg m k) w) := by
  have HM := Lib.hid hm; clear hm
  have HK := Lib.hid hk; clear hk
  have hlm : len m ≤ n := by rw [← hv']; exact len_le (valN_lt hb)
  have HR := Lib.hid ((rd_val ha hb hv').ext (Ext.alloc w (.cells #[.bool false, .slice none 0 0, I 0] 24)))
  have HA := Lib.hid (ha.ext (Ext.alloc w (.cells #[.bool false, .slice none 0 0, I 0] 24))); clear ha
  have SB := Lib.hid (St.new w (.bool false) (.slice none 0 0) (I 0) 24)
  have HB := Lib.hid hb; clear hb
  obtain ⟨o1, o2, _⟩ := oa
  have HV := Lib.hid hv'; clear hv'
  obtain ⟨i0, hi0, hz0, hz1, hz2⟩ := info_parts infoU
  obtain ⟨L, hLe⟩ : ∃ L, len m = L := ⟨_, rfl⟩
  have HLe := Lib.hid hLe
  rw [hLe] at hlm
  have hright : Hid (∀ j : Nat, j ≤ 1073741824 → Calls Tryz.prog 159 #[.slice A L c, I j] (w.alloc (.cells #[.bool false, .slice none 0 0, I 0] 24)) (RightRes m j (w.alloc (.cells #[.bool false, .slice none 0 0, I 0] 24)))) := fun j hj => by
    rw [← HLe.out]; exact rright_any A m j c _ HR.out (by rw [HLe.out]; omega) hj
  rw [hLe] at HR
  clear hLe
  go_enter Tryz.func120, Tryz.ntmps120
  go_wp2_with (go_at_call 190; refine (rtrim_any A n c f _ HA.out HB.out o1 o2).mono ?_; rw [HV.out, HLe.out]; rintro e w4 ⟨rfl, rfl⟩)
  go_loopw [7] (fun si wr => w.alloc (.cells #[.bool false, .slice none 0 0, I 0] 24) = wr ∧ ∃ j : Nat, j ≤ k ∧ j ≤ 32 * L ∧ si = I j ∧ Hid (∀ i, i < j → m / 2 ^ i % 2 = 0)) (fun si _ => k - (intOf si).toNat)
  case atStart => exact ⟨rfl, 0, Nat.zero_le _, Nat.zero_le _, rfl, fun i hi => by omega⟩
  case round =>
    obtain ⟨rfl, j, hjk, hjL, rfl, hz⟩ := hrel
    by_cases hlt : j < k ∧ j < 32 * L
    · obtain ⟨l1, l2⟩ := hlt
      have i2 : (j : Int) < 32 * (L : Int) := by omega
      obtain ⟨a, hae⟩ : ∃ a, j / 32 = a := ⟨_, rfl⟩
      obtain ⟨s, hse⟩ : ∃ s, j % 32 = s := ⟨_, rfl⟩
      have haL : a < L := by omega
      have ea : (j : Int) / 32 = (a : Int) := by omega
      have es : (j : Int) % 32 = (s : Int) := by omega
      have hs32 : s < 32 := by omega
      have hbit := bit_dg m j
      rw [hae, hse] at hbit
      obtain ⟨b2, o2', rfl, hb2, c2⟩ := HR.out.at_ haL
      have hxl := dg_lt m a
      obtain ⟨x, hxe⟩ : ∃ x, dg m a = x := ⟨_, rfl⟩
      rw [hxe] at c2 hxl hbit
      clear hxe
      obtain ⟨v, hv⟩ : ∃ v, x / 2 ^ s = v := ⟨_, rfl⟩
      have ev : (x : Int) / 2 ^ s = (v : Int) := by rw [← hv]; simp
      have hvb : v < 4294967296 := by rw [← hv]; exact Nat.lt_of_le_of_lt (Nat.div_le_self _ _) hxl
      have eb := and_one32 hvb
      rw [hv] at hbit
      rw [hbit] at eb
      have i1 : (0 : Int) ≤ (a : Int) := by omega
      clear hv hbit hae hse
      by_cases hd : m / 2 ^ j % 2 = 0
      · rw [hd] at eb
        have hz' : Hid (∀ i, i < j + 1 → m / 2 ^ i % 2 = 0) := fun i hi => by
          by_cases e : i = j
          · subst e; exact hd
          · exact hz.out i (by omega)
        clear hd
        go_wp2
        go_roundw
        case rel => exact ⟨trivial, j + 1, by omega, by omega, by go_num, hz'⟩
        case measure => simp [intOf]; omega
      · have hd1 : m / 2 ^ j % 2 = 1 := by omega
        rw [hd1] at eb
        clear hd
        have hjv : hv m k = j := hv_of_bits hjk (fun i hi => hz.out i hi) (fun _ => hd1)
        have HJ := Lib.hid hjv
        have hx0 : m / 2 ^ j ≠ 0 := by rw [← hjv]; exact hv_div_pos HM.out
        have hkj : k - j ≤ 65536 := by rw [← hjv]; exact HK.out
        obtain ⟨t, ht⟩ : ∃ t, k - j = t := ⟨_, rfl⟩
        have et : (k : Int) - (j : Int) = (t : Int) := by omega
        have ht6 : t ≤ 65536 := by omega
        have HE : Hid (mkD neg m k = ⟨neg, m / 2 ^ j, t⟩) := by
          show _ = _
          rw [mkD_halves HM.out HK.out, hjv, ht]
        obtain ⟨x, hxe⟩ : ∃ x, m / 2 ^ j = x := ⟨_, rfl⟩
        rw [hxe] at hx0 HE
        have hlx : len x ≤ L := by rw [← hxe, ← HLe.out]; exact len_mono (Nat.div_le_self _ _)
        have h0 : len x ≠ 0 := fun e => hx0 (len_eq_zero.1 e)
        have hl0 : ((len x : Int) == 0) = false := by simp; omega
        have HX := Lib.hid hxe
        clear hjv hxe ht hz hkj
        go_wp2_with (first
          | (go_at_call 159; (with_reducible refine (hright.out j (by omega)).mono ?_); rintro e w2 ⟨A1, c1, rfl, hon, hx⟩; rw [HX.out] at hon ⊢; have HON := Lib.hid hon; have HXT := Lib.hid hx; clear hon hx; obtain ⟨g1, rfl⟩ := on_some HON.out h0; have HN := Lib.hid (news_rd HON.out.rd 153); obtain ⟨hc, hf⟩ := HXT.out.old; have k0 : w2.frozen? ⟨w.heap.size, 0, none⟩ = false := (hf _ _ (by simp)).trans (by go_simp); have k1 : w2.frozen? ⟨w.heap.size, 1, none⟩ = false := (hf _ _ (by simp)).trans (by go_simp); have k2 : w2.frozen? ⟨w.heap.size, 2, none⟩ = false := (hf _ _ (by simp)).trans (by go_simp); have hws : w.heap.size < w2.heap.size := (SB.out.ext HXT.out).lt; clear hc hf)
          | (at_builtin; refine wpList_append_own _ rfl _ _ _ rfl w2.heap.size 153 i0 _ 1 4 Tryz.underlying22 hi0 hz0 hz1 hz2 rfl (by omega) (.slice (some ⟨w2.heap.size, 0, none⟩) 0 0) 0 [] rfl (World.ownsRow_made w2 #[] 0 (Nat.le_refl _) (Nat.zero_le _) rfl) _ (len x) c1 (wl (dg x) (len x)) rfl (by rw [wl_len]; omega) HN.out (by intro u hu; unfold wl at hu; simp at hu; obtain ⟨_, _, rfl⟩ := hu; rfl) (by unfold maxLen; omega) (by omega) (by simp) ?_; intro v1 w3 hown1 hg1 _; rw [Nat.zero_add, List.nil_append] at hown1; obtain ⟨A', c', rfl⟩ := slice_of_owns hown1; have HX3 : Hid (Ext w2 w3) := Below.grown (Ext.alloc w2 _) hg1 (by simp) (fun k hk => by simp [Value.ownBlock] at hk; omega); have HO3 : Hid (On w3 w2.heap.size A' (len x) c' (dg x)) := hown1; clear hown1 hg1; have m0 := (HX3.out.old.2 w.heap.size 0 hws).trans k0; have m1 := (HX3.out.old.2 w.heap.size 1 hws).trans k1; have m2 := (HX3.out.old.2 w.heap.size 2 hws).trans k2; obtain ⟨z0, z1, z2⟩ := (SB.out.ext HXT.out).ext HX3.out))
        have hsz := HX3.out.size
        exact bodyPost_ret (v := dv neg A' (len x) c' t) (by simp [results, Tryz.results120, go_sem, z0, z1, z2]) rfl (DyRes.of (b := w2.heap.size) HE.out (by repeat (first | exact HO3.out | refine On.set ?_ (by omega) _ _)) (by omega) (by repeat (first | exact ((Ext.alloc _ _).trans HXT.out).trans HX3.out | refine Ext.set ?_ (Nat.le_refl _) _)))
    · by_cases hjk2 : j < k
      · exfalso
        have hj32 : j = 32 * L := by omega
        have hlt2 : m < 2 ^ j := by rw [hj32, ← pB_two]; exact lt_pB (by rw [HLe.out]; omega)
        have hall : ∀ i, m / 2 ^ i % 2 = 0 := fun i => by
          by_cases e : i < j
          · exact hz.out i e
          · rw [Nat.div_eq_of_lt (Nat.lt_of_lt_of_le hlt2 (p2_le (by omega)))]
        have h1 := hv_of_bits (m := m) (k := j) (j := j) (Nat.le_refl _) (fun i _ => hall i) (fun h => by omega)
        have h2 := hv_div_pos (m := m) (k := j) HM.out
        rw [h1, Nat.div_eq_of_lt hlt2] at h2
        exact h2 rfl
      · have hjk3 := hjk
        clear hjk3
        have hjv : hv m k = j := hv_of_bits hjk (fun i hi => hz.out i hi) (fun h => by omega)
        have HJ := Lib.hid hjv
        have hx0 : m / 2 ^ j ≠ 0 := by rw [← hjv]; exact hv_div_pos HM.out
        have hkj : k - j ≤ 65536 := by rw [← hjv]; exact HK.out
        obtain ⟨t, ht⟩ : ∃ t, k - j = t := ⟨_, rfl⟩
        have et : (k : Int) - (j : Int) = (t : Int) := by omega
        have ht6 : t ≤ 65536 := by omega
        have HE : Hid (mkD neg m k = ⟨neg, m / 2 ^ j, t⟩) := by
          show _ = _
          rw [mkD_halves HM.out HK.out, hjv, ht]
        obtain ⟨x, hxe⟩ : ∃ x, m / 2 ^ j = x := ⟨_, rfl⟩
        rw [hxe] at hx0 HE
        have hlx : len x ≤ L := by rw [← hxe, ← HLe.out]; exact len_mono (Nat.div_le_self _ _)
        have h0 : len x ≠ 0 := fun e => hx0 (len_eq_zero.1 e)
        have hl0 : ((len x : Int) == 0) = false := by simp; omega
        have HX := Lib.hid hxe
        clear hjv hxe ht hz hkj
        go_wp2_with (first
          | (go_at_call 159; (with_reducible refine (hright.out j (by omega)).mono ?_); rintro e w2 ⟨A1, c1, rfl, hon, hx⟩; rw [HX.out] at hon ⊢; have HON := Lib.hid hon; have HXT := Lib.hid hx; clear hon hx; obtain ⟨g1, rfl⟩ := on_some HON.out h0; have HN := Lib.hid (news_rd HON.out.rd 153); obtain ⟨hc, hf⟩ := HXT.out.old; have k0 : w2.frozen? ⟨w.heap.size, 0, none⟩ = false := (hf _ _ (by simp)).trans (by go_simp); have k1 : w2.frozen? ⟨w.heap.size, 1, none⟩ = false := (hf _ _ (by simp)).trans (by go_simp); have k2 : w2.frozen? ⟨w.heap.size, 2, none⟩ = false := (hf _ _ (by simp)).trans (by go_simp); have hws : w.heap.size < w2.heap.size := (SB.out.ext HXT.out).lt; clear hc hf)
          | (at_builtin; refine wpList_append_own _ rfl _ _ _ rfl w2.heap.size 153 i0 _ 1 4 Tryz.underlying22 hi0 hz0 hz1 hz2 rfl (by omega) (.slice (some ⟨w2.heap.size, 0, none⟩) 0 0) 0 [] rfl (World.ownsRow_made w2 #[] 0 (Nat.le_refl _) (Nat.zero_le _) rfl) _ (len x) c1 (wl (dg x) (len x)) rfl (by rw [wl_len]; omega) HN.out (by intro u hu; unfold wl at hu; simp at hu; obtain ⟨_, _, rfl⟩ := hu; rfl) (by unfold maxLen; omega) (by omega) (by simp) ?_; intro v1 w3 hown1 hg1 _; rw [Nat.zero_add, List.nil_append] at hown1; obtain ⟨A', c', rfl⟩ := slice_of_owns hown1; have HX3 : Hid (Ext w2 w3) := Below.grown (Ext.alloc w2 _) hg1 (by simp) (fun k hk => by simp [Value.ownBlock] at hk; omega); have HO3 : Hid (On w3 w2.heap.size A' (len x) c' (dg x)) := hown1; clear hown1 hg1; have m0 := (HX3.out.old.2 w.heap.size 0 hws).trans k0; have m1 := (HX3.out.old.2 w.heap.size 1 hws).trans k1; have m2 := (HX3.out.old.2 w.heap.size 2 hws).trans k2; obtain ⟨z0, z1, z2⟩ := (SB.out.ext HXT.out).ext HX3.out))
        have hsz := HX3.out.size
        exact bodyPost_ret (v := dv neg A' (len x) c' t) (by simp [results, Tryz.results120, go_sem, z0, z1, z2]) rfl (DyRes.of (b := w2.heap.size) HE.out (by repeat (first | exact HO3.out | refine On.set ?_ (by omega) _ _)) (by omega) (by repeat (first | exact ((Ext.alloc _ _).trans HXT.out).trans HX3.out | refine Ext.set ?_ (Nat.le_refl _) _)))
end

/-! ### Refg -/
section
open Go.RowKit

set_option maxRecDepth 100000 in
set_option maxHeartbeats 1000000 in
theorem rnumber_zero (neg : Bool) (A : Option Addr) (n c k : Nat) (f : Nat → Nat) (w : World) (ha : Rd w A n f) (oa : SlOk A n c) (hb : ∀ i, i < n → f i < 4294967296) (hv' : valN f n = 0) (hk : k ≤ 65536) :
    Calls Tryz.prog 120 #[.bool neg, .slice A n c, I k] w (DyRes DV.zero w) := by
  have HA := Lib.hid (ha.ext (Ext.alloc w (.cells #[.bool false, .slice none 0 0, I 0] 24))); clear ha
  have HB := Lib.hid hb; clear hb
  obtain ⟨o1, o2, _⟩ := oa
  have HV := Lib.hid hv'; clear hv'
  have hz : Hid (len (0 / 2 ^ 0) = 0) := by show _ = _; rw [Nat.zero_div, len_zero]
  have hright : Hid (Calls Tryz.prog 159 #[.slice A 0 c, I 0] (w.alloc (.cells #[.bool false, .slice none 0 0, I 0] 24)) (RightRes 0 0 (w.alloc (.cells #[.bool false, .slice none 0 0, I 0] 24)))) := by
    have := rright_any A 0 0 c (w.alloc (.cells #[.bool false, .slice none 0 0, I 0] 24)) (by rw [len_zero]; exact Rd.none_) (by rw [len_zero]; decide) (by decide)
    rw [len_zero] at this
    exact this
  go_enter Tryz.func120, Tryz.ntmps120
  go_wp2_with (go_at_call 190; refine (rtrim_any A n c f _ HA.out HB.out o1 o2).mono ?_; rw [HV.out, len_zero]; rintro e w4 ⟨rfl, rfl⟩)
  go_loopw [7] (fun si wr => w.alloc (.cells #[.bool false, .slice none 0 0, I 0] 24) = wr ∧ si = I 0) (fun _ _ => 0)
  case atStart => exact ⟨rfl, rfl⟩
  case round =>
    obtain ⟨rfl, rfl⟩ := hrel
    by_cases hk0 : k = 0
    · subst hk0
      go_wp2_with (go_at_call 159; (with_reducible refine hright.out.mono ?_); rintro e w2 ⟨A1, c1, rfl, hon, hx⟩; rw [hz.out] at *; have HXT := Lib.hid hx; clear hon hx; obtain ⟨hc, hf⟩ := HXT.out.old; have hws : w.heap.size < (w.alloc (.cells #[.bool false, .slice none 0 0, I 0] 24)).heap.size := by simp)
      exact bodyPost_ret (v := dv false none 0 0 0) (by simp [results, Tryz.results120, go_sem, hc]) rfl (DyRes.zero (by repeat (first | exact (Ext.alloc _ _).trans HXT.out | refine Ext.set ?_ (Nat.le_refl _) _)))
    · have hk1 : (0 : Int) < (k : Int) := by omega
      go_wp2_with (go_at_call 159; (with_reducible refine hright.out.mono ?_); rintro e w2 ⟨A1, c1, rfl, hon, hx⟩; rw [hz.out] at *; have HXT := Lib.hid hx; clear hon hx; obtain ⟨hc, hf⟩ := HXT.out.old; have hws : w.heap.size < (w.alloc (.cells #[.bool false, .slice none 0 0, I 0] 24)).heap.size := by simp)
      exact bodyPost_ret (v := dv false none 0 0 0) (by simp [results, Tryz.results120, go_sem, hc]) rfl (DyRes.zero (by repeat (first | exact (Ext.alloc _ _).trans HXT.out | refine Ext.set ?_ (Nat.le_refl _) _)))

theorem rnumber_le (neg : Bool) (A : Option Addr) (n c k m : Nat) (f : Nat → Nat) (w : World) (ha : Rd w A n f) (oa : SlOk A n c) (hb : ∀ i, i < n → f i < 4294967296) (hv' : valN f n = m) (hn : n ≤ 33554432) (hk : k ≤ 65536) :
    Calls Tryz.prog 120 #[.bool neg, .slice A n c, I k] w (DyRes (mkD neg m k) w) := by
  by_cases hm : m = 0
  · subst hm
    rw [mkD_small hk, nrm_zero]
    exact rnumber_zero neg A n c k f w ha oa hb hv' hk
  · exact rnumber_fine neg A n c k m f w ha oa hb hv' hn (by omega) hm (by omega)
theorem rnumber_at (neg : Bool) (A : Option Addr) (c k m : Nat) (w : World) (ha : Rd w A (len m) (dg m)) (oa : SlOk A (len m) c) (hn : len m ≤ 33554432) (hk : k ≤ 65536) :
    Calls Tryz.prog 120 #[.bool neg, .slice A (len m) c, I k] w (DyRes (mkD neg m k) w) :=
  rnumber_le neg A (len m) c k m (dg m) w ha oa (fun i _ => dg_lt m i) (valN_dg_all (Nat.le_refl _)) hn hk
end

end Go.Proofs.YtcdkkohklhmpgaaGreatDoor
