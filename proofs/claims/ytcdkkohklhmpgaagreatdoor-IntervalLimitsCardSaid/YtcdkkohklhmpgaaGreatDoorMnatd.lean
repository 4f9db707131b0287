/- Functions on natural numbers, part 4: copies, sums. -/
import Derived.Test.YtcdkkohklhmpgaaGreatDoorMmem
import Derived.Lib.SliceRun
namespace Go.Proofs.YtcdkkohklhmpgaaGreatDoor

/-! ### Natd -/
section
open Go.RowKit

def CloneRes (n : Nat) (f : Nat → Nat) (w : World) (e : Ending) (w' : World) : Prop := ∃ A c, e = .returned (.slice A n c) ∧ On w' w.heap.size A n c f ∧ Ext w w'
set_option maxRecDepth 100000 in
set_option maxHeartbeats 1000000 in
theorem clone_any (A : Option Addr) (n c : Nat) (f : Nat → Nat) (w : World) (hr : Rd w A n f) (hok : SlOk A n c) (hn : n ≤ 1099511627776) :
    Calls Tryz.prog 208 #[.slice A n c] w (CloneRes n f w) := by
  have HR := Lib.hid hr; clear hr
  have HL := Lib.hid hn; clear hn
  have q22 : ∀ (w : World) (a : Option Addr) (n c n' c' : Nat), (binOp .eql 22 (.slice a n c) (.slice none n' c')).run Tryz.prog w = .ok (.bool a.isNone) w := fun w a n c n' c' => Lib.run_eql_slice_nil w _ _ a n c n' c' Tryz.underlying22
  obtain ⟨_, _, h0⟩ := hok
  cases A with
  | none =>
    obtain ⟨rfl, rfl⟩ := h0 rfl
    clear h0
    go_enter Tryz.func208, Tryz.ntmps208
    go_wp2
    go_ret
    exact ⟨none, 0, rfl, On.nil _ _ _, Ext.refl _⟩
  | some ad =>
    clear h0
    have hnews : ∀ j u, (wl f n)[j]? = some u → (w.alloc (.cells #[] 153)).cell? (ad.add j) = some u := by
      intro j u hj
      by_cases hjn : j < n
      · obtain ⟨b, o, e, hb, hc⟩ := HR.out (by omega)
        injection e with e
        subst e
        rw [wl_get _ hjn] at hj
        injection hj with hj
        subst hj
        rw [World.cell?_alloc_lt _ _ _ (by unfold Addr.add; split <;> exact hb)]
        have := hc j hjn
        unfold Addr.add; split
        · rename_i h0; subst h0; exact this
        · exact this
      · rw [List.getElem?_eq_none (by rw [wl_len]; omega)] at hj; cases hj
    have HN := Lib.hid hnews; clear hnews
    obtain ⟨i0, hi0, hz0, hz1, hz2⟩ := info_parts infoU
    go_enter Tryz.func208, Tryz.ntmps208
    go_wp2_with (at_builtin; refine wpList_append_own _ rfl _ _ _ rfl w.heap.size 153 i0 _ 1 4 Tryz.underlying22 hi0 hz0 hz1 hz2 rfl (by omega) (.slice (some ⟨w.heap.size, 0, none⟩) 0 0) 0 [] rfl (World.ownsRow_made w #[] 0 (Nat.le_refl _) (Nat.zero_le _) rfl) ad n c (wl f n) rfl (by rw [wl_len]; omega) HN.out (by intro u hu; unfold wl at hu; simp at hu; obtain ⟨_, _, rfl⟩ := hu; rfl) (by have := HL.out; unfold maxLen; omega) (by have := HL.out; omega) (by simp) ?_; intro v1 w1 hown1 hg1 _)
    go_wp2
    go_ret
    rw [Nat.zero_add, List.nil_append] at hown1
    have hx : Ext w w1 := Below.grown (Ext.alloc w _) hg1 (by simp) (fun k hk => by simp [Value.ownBlock] at hk; omega)
    obtain ⟨A', c', rfl⟩ : ∃ A' c', v1 = .slice A' n c' := by
      rcases hown1.2 with ⟨rfl, hz⟩ | ⟨g, cap, cur, rfl, _⟩
      · exact ⟨none, 0, by rw [hz]⟩
      · exact ⟨_, _, rfl⟩
    exact ⟨A', c', rfl, hown1, hx⟩

/-- What a sum's second loop holds. -/
theorem sum_end {m n k L cy : Nat} {F : Nat → Nat} (hL : len m ≤ L) (hn : len n ≤ L) (hk : k ≤ L + 1) (hv : valN F k + cy * pB k = valN (dg m) k + n) (hF : ∀ i, k ≤ i → F i = dg m i) (hk2 : len n ≤ k) : (cy = 0 → valN F (L + 1) = m + n) ∧ (0 < cy → k < L + 1) := by
  constructor
  · intro h0
    have key : ∀ j, k + j ≤ L + 1 → valN F (k + j) = valN (dg m) (k + j) + n := by
      intro j
      induction j with
      | zero => intro _; rw [h0] at hv; simpa using hv
      | succ j ih =>
        intro hj
        rw [← Nat.add_assoc, valN, valN, ih (by omega), hF _ (by omega)]; omega
    have := key (L + 1 - k) (by omega)
    rw [show k + (L + 1 - k) = L + 1 by omega, valN_dg_all (by omega)] at this
    exact this
  · intro h0
    rcases Nat.lt_or_ge k (L + 1) with h | h
    · exact h
    · exfalso
      have : k = L + 1 := by omega
      subst this
      rw [valN_dg_all (by omega)] at hv
      have a := lt_pB hL
      have b := lt_pB hn
      rw [pB_succ] at hv
      have : 1 * (4294967296 * pB L) ≤ cy * (4294967296 * pB L) := Nat.mul_le_mul_right _ h0
      omega

theorem wf_dg (m : Nat) {n : Nat} : ∀ i, i < n → dg m i < 4294967296 := fun i _ => dg_lt m i

set_option maxRecDepth 100000 in
set_option maxHeartbeats 1000000 in
theorem sum_le (A B : Option Addr) (m n ca cb : Nat) (w : World) (ha : Rd w A (len m) (dg m)) (hb' : Rd w B (len n) (dg n)) (oa : SlOk A (len m) ca) (ob : SlOk B (len n) cb) (hl : len n ≤ len m) (hL : len m ≤ 1073741824) :
    Calls Tryz.prog 155 #[.slice A (len m) ca, .slice B (len n) cb] w (NatRes (m + n) w) := by
  have HA := Lib.hid ha; clear ha
  have HB := Lib.hid hb'; clear hb'
  have OA := Lib.hid oa; clear oa
  have OB := Lib.hid ob; clear ob
  obtain ⟨L, hLe⟩ : ∃ L, len m = L := ⟨_, rfl⟩
  obtain ⟨l, hle⟩ : ∃ l, len n = l := ⟨_, rfl⟩
  rw [hLe] at hl hL HA OA ⊢
  rw [hle] at hl HB OB ⊢
  have HLe := Lib.hid hLe; clear hLe
  have Hle := Lib.hid hle; clear hle
  go_enter Tryz.func155, Tryz.ntmps155
  go_wp2_with (first
    | (go_at_call 208; refine (clone_any _ _ _ _ _ HA.out OA.out (by omega)).mono ?_; rintro e w1 ⟨A1, c1, rfl, hon, hx⟩)
    | (at_builtin; refine app1 rfl _ _ rfl w.heap.size A1 L c1 (dg m) (by rfl) (hon.ext (Ext.alloc _ _)) _ 1 0 (by rfl) (by go_simp) (by omega) (by have := hx.size; simp; omega) ?_; intro g cap w2 hrow hg2 hat2 hlt2; have hcap : l ≤ cap := by (have := hrow.cap.1; omega))
    | (go_at_call 209; refine (addTo_any w.heap.size g (L + 1) cap 0 l cap cb (upd (dg m) L 0) (dg n) B _ hrow (by omega) (by omega) (HB.out.ext (ext_app (hx.trans (Ext.alloc _ _)) (hon.ext (Ext.alloc _ _)) hg2)) (fun h0 => HB.out.block_ne h0 hrow.lt.1) (upd_lt (wf_dg m) (by omega)) (wf_dg n)).mono ?_; rintro e w3 ⟨F1, cy1, rfl, hrow1, hfr1, hb1, ho1, hcy1, hv1⟩))
  have hx3 : Hid (Ext w w3) := ext_fr (ext_app (hx.trans (Ext.alloc _ _)) (hon.ext (Ext.alloc _ _)) hg2) hfr1 hrow.lt.1
  have hr3 : Hid (∀ i, l ≤ i → F1 i = dg m i) := fun i hi => by
    rw [ho1 i (.inr (by omega))]
    by_cases e : i = L
    · subst e; rw [upd_same, dg_high (by rw [HLe.out]; omega)]
    · exact upd_ne _ e
  have hv3 : Hid (valN F1 l + cy1 * pB l = valN (dg m) l + n) := by
    have e1 : valN (fun i => F1 (0 + i)) l = valN F1 l := valN_congr fun i _ => by rw [Nat.zero_add]
    have e2 : valN (fun i => upd (dg m) L 0 (0 + i)) l = valN (dg m) l := valN_congr fun i hi => by rw [Nat.zero_add, upd_ne _ (by omega)]
    rw [e1, e2, valN_dg_all (m := n) (by rw [Hle.out]; omega)] at hv1
    exact hv1
  have hR1 := Lib.hid hrow1
  have hB1 := Lib.hid hb1
  have hg1 : Hid (w.heap.size ≤ g) := hrow.lt.1
  clear hx hon hrow hg2 hat2 hlt2 hfr1 ho1 hv1 hrow1 hb1
  go_loopw [6, 7] (fun sc si wr => ∃ (k cy : Nat) (F : Nat → Nat), l ≤ k ∧ k ≤ L + 1 ∧ si = I k ∧ sc = U4 cy ∧ cy ≤ 1 ∧ Hid (Row wr w.heap.size g (L + 1) cap F) ∧ Hid (Ext w wr) ∧ Hid (∀ i, i < L + 1 → F i < 4294967296) ∧ Hid (∀ i, k ≤ i → F i = dg m i) ∧ Hid (valN F k + cy * pB k = valN (dg m) k + n)) (fun _ si _ => L + 1 - (intOf si).toNat)
  case atStart => exact ⟨l, cy1, F1, Nat.le_refl _, by omega, rfl, rfl, hcy1, hR1, hx3, hB1, hr3, hv3⟩
  case round =>
    clear hx3 hr3 hv3 hR1 hB1
    obtain ⟨k, cy, F, hlk, hkL, rfl, rfl, hcy, hR, hX, hB, hH, hv⟩ := hrel
    have hend := sum_end (m := m) (n := n) (L := L) (by rw [HLe.out]; omega) (by rw [Hle.out]; exact hl) hkL hv.out hH.out (by rw [Hle.out]; exact hlk)
    rcases Nat.eq_zero_or_pos cy with h0 | h0
    · have hE := Lib.hid (hend.1 h0)
      subst h0
      clear hend hv
      go_wp2_with (go_at_call 207; refine (trim_any _ _ _ F _ hR.out.rd hB.out hR.out.cap.1 hR.out.cap.2).mono ?_; rintro e w4 ⟨rfl, rfl⟩)
      go_ret
      exact natRes_of hR.out hB.out hE.out rfl hX.out
    · have hkl := hend.2 h0
      have hk1 : k ≤ L := by omega
      clear hend
      have c1 := hR.out.cell (k := k) (by omega)
      have f1 := hR.out.frozen k
      have hxx := hB.out k (by omega)
      obtain ⟨x, hxe⟩ : ∃ x, F k = x := ⟨_, rfl⟩
      rw [hxe] at c1 hxx
      obtain ⟨r, hr⟩ : ∃ r, (x + 0 + cy) % 4294967296 = r := ⟨_, rfl⟩
      obtain ⟨d, hd⟩ : ∃ d, (x + 0 + cy) / 4294967296 = d := ⟨_, rfl⟩
      have hd1 : d ≤ 1 := by omega
      have hr1 : r < 4294967296 := by omega
      have hs := Lib.hid (add_step (s := r) (x := x) (y := 0) (c := cy) (c' := d) hv.out (by omega))
      have hxd : Hid (x = dg m k) := by rw [← hxe]; exact hH.out k (Nat.le_refl _)
      have hX' := Lib.hid hxe; clear hxe
      have R := Lib.hid hr; clear hr
      have D := Lib.hid hd; clear hd
      have h0' : (0 : Int) < (cy : Int) := by omega
      go_wp2_with (go_at_call 210; refine (add32_at x 0 cy r d _ hxx (by omega) hcy R.out D.out).mono ?_; rintro e w4 ⟨rfl, rfl⟩)
      go_roundw
      case rel =>
        refine ⟨k + 1, d, upd F k r, by omega, by omega, by go_num, rfl, hd1, Row.set hR.out _ _, Ext.set hX.out hg1.out _, upd_lt hB.out hr1, ?_, ?_⟩
        · exact fun i hi => by rw [upd_ne _ (by omega)]; exact hH.out i (by omega)
        · show _ = _
          have := hs.out
          rw [pB_succ, valN_upd, valN, ← hxd.out]
          omega
      case measure => simp [intOf]; omega

set_option maxRecDepth 100000 in
set_option maxHeartbeats 1000000 in
theorem sum_gt (A B : Option Addr) (m n ca cb : Nat) (w : World) (ha : Rd w A (len m) (dg m)) (hb' : Rd w B (len n) (dg n)) (oa : SlOk A (len m) ca) (ob : SlOk B (len n) cb) (hl : len n < len m) (hL : len m ≤ 1073741824) :
    Calls Tryz.prog 155 #[.slice B (len n) cb, .slice A (len m) ca] w (NatRes (m + n) w) := by
  have HA := Lib.hid ha; clear ha
  have HB := Lib.hid hb'; clear hb'
  have OA := Lib.hid oa; clear oa
  have OB := Lib.hid ob; clear ob
  obtain ⟨L, hLe⟩ : ∃ L, len m = L := ⟨_, rfl⟩
  obtain ⟨l, hle⟩ : ∃ l, len n = l := ⟨_, rfl⟩
  rw [hLe] at hl hL HA OA ⊢
  rw [hle] at hl HB OB ⊢
  have HLe := Lib.hid hLe; clear hLe
  have Hle := Lib.hid hle; clear hle
  go_enter Tryz.func155, Tryz.ntmps155
  go_wp2_with (first
    | (go_at_call 208; refine (clone_any _ _ _ _ _ HA.out OA.out (by omega)).mono ?_; rintro e w1 ⟨A1, c1, rfl, hon, hx⟩)
    | (at_builtin; refine app1 rfl _ _ rfl w.heap.size A1 L c1 (dg m) (by rfl) (hon.ext (Ext.alloc _ _)) _ 1 0 (by rfl) (by go_simp) (by omega) (by have := hx.size; simp; omega) ?_; intro g cap w2 hrow hg2 hat2 hlt2; have hcap : l ≤ cap := by (have := hrow.cap.1; omega))
    | (go_at_call 209; refine (addTo_any w.heap.size g (L + 1) cap 0 l cap cb (upd (dg m) L 0) (dg n) B _ hrow (by omega) (by omega) (HB.out.ext (ext_app (hx.trans (Ext.alloc _ _)) (hon.ext (Ext.alloc _ _)) hg2)) (fun h0 => HB.out.block_ne h0 hrow.lt.1) (upd_lt (wf_dg m) (by omega)) (wf_dg n)).mono ?_; rintro e w3 ⟨F1, cy1, rfl, hrow1, hfr1, hb1, ho1, hcy1, hv1⟩))
  have hx3 : Hid (Ext w w3) := ext_fr (ext_app (hx.trans (Ext.alloc _ _)) (hon.ext (Ext.alloc _ _)) hg2) hfr1 hrow.lt.1
  have hr3 : Hid (∀ i, l ≤ i → F1 i = dg m i) := fun i hi => by
    rw [ho1 i (.inr (by omega))]
    by_cases e : i = L
    · subst e; rw [upd_same, dg_high (by rw [HLe.out]; omega)]
    · exact upd_ne _ e
  have hv3 : Hid (valN F1 l + cy1 * pB l = valN (dg m) l + n) := by
    have e1 : valN (fun i => F1 (0 + i)) l = valN F1 l := valN_congr fun i _ => by rw [Nat.zero_add]
    have e2 : valN (fun i => upd (dg m) L 0 (0 + i)) l = valN (dg m) l := valN_congr fun i hi => by rw [Nat.zero_add, upd_ne _ (by omega)]
    rw [e1, e2, valN_dg_all (m := n) (by rw [Hle.out]; omega)] at hv1
    exact hv1
  have hR1 := Lib.hid hrow1
  have hB1 := Lib.hid hb1
  have hg1 : Hid (w.heap.size ≤ g) := hrow.lt.1
  clear hx hon hrow hg2 hat2 hlt2 hfr1 ho1 hv1 hrow1 hb1
  go_loopw [6, 7] (fun sc si wr => ∃ (k cy : Nat) (F : Nat → Nat), l ≤ k ∧ k ≤ L + 1 ∧ si = I k ∧ sc = U4 cy ∧ cy ≤ 1 ∧ Hid (Row wr w.heap.size g (L + 1) cap F) ∧ Hid (Ext w wr) ∧ Hid (∀ i, i < L + 1 → F i < 4294967296) ∧ Hid (∀ i, k ≤ i → F i = dg m i) ∧ Hid (valN F k + cy * pB k = valN (dg m) k + n)) (fun _ si _ => L + 1 - (intOf si).toNat)
  case atStart => exact ⟨l, cy1, F1, Nat.le_refl _, by omega, rfl, rfl, hcy1, hR1, hx3, hB1, hr3, hv3⟩
  case round =>
    clear hx3 hr3 hv3 hR1 hB1
    obtain ⟨k, cy, F, hlk, hkL, rfl, rfl, hcy, hR, hX, hB, hH, hv⟩ := hrel
    have hend := sum_end (m := m) (n := n) (L := L) (by rw [HLe.out]; omega) (by rw [Hle.out]; exact Nat.le_of_lt hl) hkL hv.out hH.out (by rw [Hle.out]; exact hlk)
    rcases Nat.eq_zero_or_pos cy with h0 | h0
    · have hE := Lib.hid (hend.1 h0)
      subst h0
      clear hend hv
      go_wp2_with (go_at_call 207; refine (trim_any _ _ _ F _ hR.out.rd hB.out hR.out.cap.1 hR.out.cap.2).mono ?_; rintro e w4 ⟨rfl, rfl⟩)
      go_ret
      exact natRes_of hR.out hB.out hE.out rfl hX.out
    · have hkl := hend.2 h0
      have hk1 : k ≤ L := by omega
      clear hend
      have c1 := hR.out.cell (k := k) (by omega)
      have f1 := hR.out.frozen k
      have hxx := hB.out k (by omega)
      obtain ⟨x, hxe⟩ : ∃ x, F k = x := ⟨_, rfl⟩
      rw [hxe] at c1 hxx
      obtain ⟨r, hr⟩ : ∃ r, (x + 0 + cy) % 4294967296 = r := ⟨_, rfl⟩
      obtain ⟨d, hd⟩ : ∃ d, (x + 0 + cy) / 4294967296 = d := ⟨_, rfl⟩
      have hd1 : d ≤ 1 := by omega
      have hr1 : r < 4294967296 := by omega
      have hs := Lib.hid (add_step (s := r) (x := x) (y := 0) (c := cy) (c' := d) hv.out (by omega))
      have hxd : Hid (x = dg m k) := by rw [← hxe]; exact hH.out k (Nat.le_refl _)
      have hX' := Lib.hid hxe; clear hxe
      have R := Lib.hid hr; clear hr
      have D := Lib.hid hd; clear hd
      have h0' : (0 : Int) < (cy : Int) := by omega
      go_wp2_with (go_at_call 210; refine (add32_at x 0 cy r d _ hxx (by omega) hcy R.out D.out).mono ?_; rintro e w4 ⟨rfl, rfl⟩)
      go_roundw
      case rel =>
        refine ⟨k + 1, d, upd F k r, by omega, by omega, by go_num, rfl, hd1, Row.set hR.out _ _, Ext.set hX.out hg1.out _, upd_lt hB.out hr1, ?_, ?_⟩
        · exact fun i hi => by rw [upd_ne _ (by omega)]; exact hH.out i (by omega)
        · show _ = _
          have := hs.out
          rw [pB_succ, valN_upd, valN, ← hxd.out]
          omega
      case measure => simp [intOf]; omega

theorem sum_any (A B : Option Addr) (m n ca cb : Nat) (w : World) (ha : Rd w A (len m) (dg m)) (hb' : Rd w B (len n) (dg n)) (oa : SlOk A (len m) ca) (ob : SlOk B (len n) cb) (hL : len m ≤ 1073741824) (hM : len n ≤ 1073741824) :
    Calls Tryz.prog 155 #[.slice A (len m) ca, .slice B (len n) cb] w (NatRes (m + n) w) := by
  rcases Nat.lt_or_ge (len m) (len n) with h | h
  · rw [Nat.add_comm]; exact sum_gt B A n m cb ca w hb' ha ob oa h hM
  · exact sum_le A B m n ca cb w ha hb' oa ob h hL
end

/-! ### Nate -/
section
open Go.RowKit

theorem dif_end {m n k L bw : Nat} {F : Nat → Nat} (hL : len m = L) (hnm : n ≤ m) (hk : k ≤ L) (hb : ∀ i, i < L → F i < 4294967296) (hv : valN F k + n = valN (dg m) k + bw * pB k) (hF : ∀ i, k ≤ i → i < L → F i = dg m i) : (bw = 0 → valN F L = m - n) ∧ (0 < bw → k < L) := by
  constructor
  · intro h0
    have key : ∀ j, k + j ≤ L → valN F (k + j) + n = valN (dg m) (k + j) := by
      intro j
      induction j with
      | zero => intro _; rw [h0] at hv; simpa using hv
      | succ j ih =>
        intro hj
        have := ih (by omega)
        rw [← Nat.add_assoc, valN, valN, hF _ (by omega) (by omega)]; omega
    have := key (L - k) (by omega)
    rw [show k + (L - k) = L by omega, valN_dg_all (by omega)] at this
    omega
  · intro h0
    rcases Nat.lt_or_ge k L with h | h
    · exact h
    · exfalso
      have : k = L := by omega
      subst this
      rw [valN_dg_all (by omega)] at hv
      have a := valN_lt hb
      have : 1 * pB k ≤ bw * pB k := Nat.mul_le_mul_right _ h0
      omega

set_option maxRecDepth 100000 in
set_option maxHeartbeats 1000000 in
theorem difference_any (A B : Option Addr) (m n ca cb : Nat) (w : World) (ha : Rd w A (len m) (dg m)) (hb' : Rd w B (len n) (dg n)) (oa : SlOk A (len m) ca) (hnm : n ≤ m) (hL : len m ≤ 1073741824) :
    Calls Tryz.prog 156 #[.slice A (len m) ca, .slice B (len n) cb] w (NatRes (m - n) w) := by
  have hl := len_mono hnm
  have HA := Lib.hid ha; clear ha
  have HB := Lib.hid hb'; clear hb'
  have OA := Lib.hid oa; clear oa
  obtain ⟨L, hLe⟩ : ∃ L, len m = L := ⟨_, rfl⟩
  obtain ⟨l, hle⟩ : ∃ l, len n = l := ⟨_, rfl⟩
  rw [hLe] at hl hL HA OA ⊢
  rw [hle] at hl HB ⊢
  have HLe := Lib.hid hLe; clear hLe
  have Hle := Lib.hid hle; clear hle
  go_enter Tryz.func156, Tryz.ntmps156
  go_wp2_with (go_at_call 208; refine (clone_any _ _ _ _ _ HA.out OA.out (by omega)).mono ?_; rintro e w1 ⟨A1, c1, rfl, hon, hx⟩)
  have hON := Lib.hid hon
  have hXX := Lib.hid hx
  clear hon hx
  go_loopw [6, 13] (fun sc si wr => ∃ (k cy : Nat) (F : Nat → Nat), k ≤ l ∧ si = I k ∧ sc = U4 cy ∧ cy ≤ 1 ∧ Hid (On wr w.heap.size A1 L c1 F) ∧ Hid (Ext w wr) ∧ Hid (∀ i, i < L → F i < 4294967296) ∧ Hid (∀ i, k ≤ i → i < L → F i = dg m i) ∧ Hid (valN F k + valN (dg n) k = valN (dg m) k + cy * pB k)) (fun _ si _ => l - (intOf si).toNat)
  case atStart => exact ⟨0, 0, dg m, Nat.zero_le _, rfl, rfl, by omega, hON, hXX, wf_dg m, (fun _ _ _ => rfl), by show _ = _; simp [valN]⟩
  case round =>
    clear hON hXX
    obtain ⟨k, cy, F, hk, rfl, rfl, hcy, hR, hX, hB, hH, hv⟩ := hrel
    by_cases hlt : k < l
    · obtain ⟨b2, o2, rfl, hb2, c2⟩ := (HB.out.ext hX.out).at_ hlt
      obtain ⟨rfl, hz, _⟩ | ⟨g, rfl, hrow⟩ := hR.out.cases
      · omega
      have hg : Hid (w.heap.size ≤ g) := hrow.lt.1
      have hR := Lib.hid hrow
      clear hrow
      have f1 := hR.out.frozen k
      have c1 := hR.out.cell (k := k) (by omega)
      have hx := hB.out k (by omega)
      have hy := dg_lt n k
      have hFk : Hid (F k = dg m k) := hH.out k (Nat.le_refl _) (by omega)
      obtain ⟨x, hxe⟩ : ∃ x, F k = x := ⟨_, rfl⟩
      obtain ⟨y, hye⟩ : ∃ y, dg n k = y := ⟨_, rfl⟩
      rw [hxe] at c1 hx
      rw [hye] at c2 hy
      have HX := Lib.hid hxe; clear hxe
      have HY := Lib.hid hye; clear hye
      obtain ⟨r, hr⟩ : ∃ r, (x + 4294967296 - y - cy) % 4294967296 = r := ⟨_, rfl⟩
      obtain ⟨d, hd⟩ : ∃ d, brw x y cy = d := ⟨_, rfl⟩
      obtain ⟨hs1, hd1⟩ := brw_step hx hy hcy
      rw [hr, hd] at hs1
      rw [hd] at hd1
      have hr1 : r < 4294967296 := by omega
      have hs := Lib.hid (sub_step (s := r) (x := x) (y := y) (c := cy) (c' := d) hv.out hs1)
      clear hs1
      have R := Lib.hid hr; clear hr
      have D := Lib.hid hd; clear hd
      go_wp2_with fail
      go_region_with ((go_at_call 211; refine (sub32_at x y cy r d _ hx hy hcy R.out D.out).mono ?_; rintro e w2 ⟨rfl, rfl⟩))
      all_goals
        go_wp2_with fail
        go_roundw
        case rel =>
          refine ⟨k + 1, d, upd F k r, by omega, by go_num, rfl, hd1, (Row.set hR.out.drew _ _).on, (Ext.set hX.out hg.out _).trans (Ext.drew _), upd_lt hB.out hr1, ?_, ?_⟩
          · exact fun i hi h2 => by rw [upd_ne _ (by omega)]; exact hH.out i (by omega) h2
          · show _ = _
            rw [pB_succ, valN_upd, valN, valN, ← hFk.out, HX.out, HY.out]
            exact hs.out
        case measure => simp [intOf]; omega
    · obtain rfl : k = l := by omega
      have hv' : Hid (valN F k + n = valN (dg m) k + cy * pB k) := by
        have := hv.out
        rw [valN_dg_all (m := n) (by rw [Hle.out]; omega)] at this
        exact this
      clear hv
      go_wp2
      go_loopw [6, 8] (fun sc si wr => ∃ (j cy : Nat) (F : Nat → Nat), j ≤ L ∧ k ≤ j ∧ si = I j ∧ sc = U4 cy ∧ cy ≤ 1 ∧ Hid (On wr w.heap.size A1 L c1 F) ∧ Hid (Ext w wr) ∧ Hid (∀ i, i < L → F i < 4294967296) ∧ Hid (∀ i, j ≤ i → i < L → F i = dg m i) ∧ Hid (valN F j + n = valN (dg m) j + cy * pB j)) (fun _ si _ => L - (intOf si).toNat)
      case atStart => exact ⟨k, cy, F, hl, Nat.le_refl _, rfl, rfl, hcy, hR, hX, hB, hH, hv'⟩
      case round =>
        clear hv' hR hX hB hH hcy
        obtain ⟨j, cy, F, hj, hkj, rfl, rfl, hcy, hR, hX, hB, hH, hv⟩ := hrel
        have hend := dif_end (m := m) (n := n) (L := L) HLe.out hnm hj hB.out hv.out hH.out
        rcases Nat.eq_zero_or_pos cy with h0 | h0
        · have hE := Lib.hid (hend.1 h0)
          subst h0
          clear hend hv
          go_wp2_with (go_at_call 207; refine (trim_any _ _ _ F _ hR.out.rd hB.out hR.out.ok.1 hR.out.ok.2.1).mono ?_; rintro e w4 ⟨rfl, rfl⟩)
          go_ret
          obtain ⟨rfl, hz, rfl⟩ | ⟨g, rfl, hrow⟩ := hR.out.cases
          · subst hz
            have h1 := hE.out
            rw [← h1]
            exact ⟨none, 0, rfl, by show On _ _ none (len 0) 0 _; rw [len_zero]; exact On.nil _ _ _, hX.out⟩
          · exact natRes_of hrow hB.out hE.out rfl hX.out
        · have hkl := hend.2 h0
          clear hend
          obtain ⟨rfl, hz, _⟩ | ⟨g, rfl, hrow⟩ := hR.out.cases
          · omega
          have hg : Hid (w.heap.size ≤ g) := hrow.lt.1
          have hR := Lib.hid hrow
          clear hrow
          have f1 := hR.out.frozen j
          have c1 := hR.out.cell (k := j) (by omega)
          have hxx := hB.out j (by omega)
          obtain ⟨x, hxe⟩ : ∃ x, F j = x := ⟨_, rfl⟩
          rw [hxe] at c1 hxx
          obtain ⟨r, hr⟩ : ∃ r, (x + 4294967296 - 0 - cy) % 4294967296 = r := ⟨_, rfl⟩
          obtain ⟨d, hd⟩ : ∃ d, brw x 0 cy = d := ⟨_, rfl⟩
          obtain ⟨hs1, hd1⟩ := brw_step (y := 0) hxx (by omega) hcy
          rw [hr, hd] at hs1
          rw [hd] at hd1
          have hr1 : r < 4294967296 := by omega
          have hs := Lib.hid (sub_step (s := r) (x := x) (y := 0) (c := cy) (c' := d) hv.out hs1)
          clear hs1
          have hxd : Hid (x = dg m j) := by rw [← hxe]; exact hH.out j (Nat.le_refl _) (by omega)
          clear hxe
          have R := Lib.hid hr; clear hr
          have D := Lib.hid hd; clear hd
          have h0' : (0 : Int) < (cy : Int) := by omega
          go_wp2_with (go_at_call 211; refine (sub32_at x 0 cy r d _ hxx (by omega) hcy R.out D.out).mono ?_; rintro e w4 ⟨rfl, rfl⟩)
          go_roundw
          case rel =>
            refine ⟨j + 1, d, upd F j r, by omega, by omega, by go_num, rfl, hd1, (Row.set hR.out _ _).on, Ext.set hX.out hg.out _, upd_lt hB.out hr1, ?_, ?_⟩
            · exact fun i hi h2 => by rw [upd_ne _ (by omega)]; exact hH.out i (by omega) h2
            · show _ = _
              have := hs.out
              rw [pB_succ, valN_upd, valN, ← hxd.out]
              omega
          case measure => simp [intOf]; omega
end

/-! ### Natf -/
section
open Go.RowKit

set_option maxRecDepth 100000 in
set_option maxHeartbeats 1000000 in
theorem shiftLeft_any (A : Option Addr) (m n ca : Nat) (w : World) (ha : Rd w A (len m) (dg m)) (hL : len m ≤ 1073741824) (hn : n ≤ 1073741824) :
    Calls Tryz.prog 180 #[.slice A (len m) ca, I n] w (NatRes (m * 2 ^ n) w) := by
  have HA := Lib.hid ha; clear ha
  obtain ⟨L, hLe⟩ : ∃ L, len m = L := ⟨_, rfl⟩
  rw [hLe] at hL HA ⊢
  have HLe := Lib.hid hLe; clear hLe
  obtain ⟨q, hq'⟩ : ∃ q, n / 32 = q := ⟨_, rfl⟩
  obtain ⟨r, hr'⟩ : ∃ r, n % 32 = r := ⟨_, rfl⟩
  have hr32 : r < 32 := by omega
  have hqn : q ≤ n := by omega
  have hq : (n : Int) / 32 = (q : Int) := by omega
  have hr : (n : Int) % 32 = (r : Int) := by omega
  have HQ := Lib.hid hq'; clear hq'
  have HR := Lib.hid hr'; clear hr'
  obtain ⟨w1, hrun, hrow, hx⟩ := run_make_row w (q + L + 1) (by omega)
  rw [show ((q + L + 1 : Nat) : Int) = (q : Int) + (L : Int) + 1 by omega] at hrun
  have hR0 := Lib.hid hrow
  have hX0 := Lib.hid hx
  clear hrow hx
  go_enter Tryz.func180, Tryz.ntmps180
  go_wp2
  clear hrun
  go_loopw [23] (fun si wr => ∃ (i c : Nat) (F : Nat → Nat), i ≤ L ∧ si = I i ∧ c < 2 ^ r ∧ F (q + i) = c ∧ Hid (Row wr w.heap.size w.heap.size (q + L + 1) (q + L + 1) F) ∧ Hid (Ext w wr) ∧ Hid (∀ j, q + i < j → F j = 0) ∧ Hid (∀ j, j < q + L + 1 → F j < 4294967296) ∧ Hid (valN F (q + i) + c * pB (q + i) = m % pB i * 2 ^ n)) (fun si _ => L - (intOf si).toNat)
  case atStart => exact ⟨0, 0, _, Nat.zero_le _, rfl, p2_pos _, rfl, hR0, hX0, (fun _ _ => rfl), (fun _ _ => by show (0:Nat) < _; decide), by show _ = _; rw [valN_zeros (f := fun _ => 0) (t := 0) (Nat.zero_le _) (fun _ _ _ => rfl)]; simp [valN, pB_zero, Nat.mod_one]⟩
  case round =>
    clear hR0 hX0
    obtain ⟨i, c, F, hi, rfl, hc, hFc, hR, hX, hZ, hB, hv⟩ := hrel
    by_cases hlt : i < L
    · obtain ⟨b2, o2, rfl, hb2, c2⟩ := (HA.out.ext hX.out).at_ hlt
      have f1 := hR.out.frozen (q + i)
      have f2 := hR.out.frozen (q + i + 1)
      have c1 := hR.out.cell (k := q + i) (by omega)
      have c3 := hR.out.cell (k := q + i + 1) (by omega)
      rw [hFc] at c1
      rw [hZ.out (q + i + 1) (by omega)] at c3
      have HF := Lib.hid hFc; clear hFc
      have hxl := dg_lt m i
      obtain ⟨x, hxe⟩ : ∃ x, dg m i = x := ⟨_, rfl⟩
      rw [hxe] at c2 hxl
      have HX := Lib.hid hxe; clear hxe
      obtain ⟨p, hp⟩ : ∃ p, x * 2 ^ r = p := ⟨_, rfl⟩
      have hpb : p < 18446744073709551616 := by
        have h1 : x * 2 ^ r ≤ 4294967295 * 2 ^ r := Nat.mul_le_mul_right _ (by omega)
        have h2 := p2_le (p := r) (q := 31) (by omega)
        omega
      have ew : IntKind.u64.wrap ((x : Int) * 2 ^ r) = (p : Int) := by
        have : ((x : Int) * 2 ^ r) = (p : Int) := by rw [← hp]; simp
        rw [this]; show (p : Int) % 18446744073709551616 = p; omega
      obtain ⟨h1, h2⟩ := shl_or (x := x) hr32 hc
      have h3 := shl_carry (m := m) (n := n) (i := i) (c := c) (by rw [HR.out]; exact hc)
      have hs := Lib.hid (shl_step (m := m) (n := n) (i := i) (S := valN F (q + i)) (c := c) (by rw [HQ.out]; exact hv.out))
      have hs2 := hs.out
      rw [HQ.out, HR.out, HX.out] at hs2
      rw [HR.out, HX.out] at h3
      rw [hp] at h1 h2 h3 hs2
      obtain ⟨lo, hlo⟩ : ∃ lo, (c + p) % 4294967296 = lo := ⟨_, rfl⟩
      obtain ⟨hi', hhi⟩ : ∃ hi', (c + p) / 4294967296 = hi' := ⟨_, rfl⟩
      rw [hlo] at h1 hs2
      rw [hhi] at h2 hs2 h3
      have hcb : c < 4294967296 := by
        have := p2_le (p := r) (q := 31) (by omega); omega
      have e1 : bits BinOp.or IntKind.u32 (c : Int) ((p : Int) % 4294967296) = (lo : Int) := by
        rw [show (p : Int) % 4294967296 = ((p % 4294967296 : Nat) : Int) by omega, or_nat32 hcb (Nat.mod_lt _ (by decide)), h1]
      have e2 : (p : Int) / 4294967296 = (hi' : Int) := by omega
      have hlo' : lo < 4294967296 := by omega
      have hhi' : hi' < 4294967296 := by
        have := p2_le (p := r) (q := 31) (by omega); omega
      have HS2 := Lib.hid hs2
      have H3 : Hid (hi' < 2 ^ r) := h3
      clear hp h1 h2 h3 hs hs2 hlo hhi hv
      go_wp2
      go_roundw
      case rel =>
        refine ⟨i + 1, hi', upd (upd F (q + i) lo) (q + i + 1) hi', by omega, by go_num, H3.out, ?_, ?_, ?_, ?_, upd_lt (upd_lt hB.out hlo') hhi', ?_⟩
        · show _ = _
          rw [show q + (i + 1) = q + i + 1 by omega, upd_same]
        · exact Row.set (Row.set hR.out _ _) _ _
        · exact Ext.set (Ext.set hX.out (Nat.le_refl _) _) (Nat.le_refl _) _
        · exact fun j hj => by rw [upd_ne _ (by omega), upd_ne _ (by omega)]; exact hZ.out j (by omega)
        · show _ = _
          rw [show q + (i + 1) = q + i + 1 by omega, valN_upd_ge _ (Nat.le_refl _), valN_upd]
          exact HS2.out
      case measure => simp [intOf]; omega
    · obtain rfl : i = L := by omega
      have hE : Hid (valN F (q + i + 1) = m * 2 ^ n) := by
        show _ = _
        rw [valN, hFc, hv.out, Nat.mod_eq_of_lt (lt_pB (by rw [HLe.out]; omega))]
      clear hFc hv
      go_wp2_with (go_at_call 207; refine (trim_any _ _ _ F _ hR.out.rd hB.out hR.out.cap.1 hR.out.cap.2).mono ?_; rintro e w4 ⟨rfl, rfl⟩)
      go_ret
      exact natRes_of hR.out hB.out hE.out rfl hX.out
end

end Go.Proofs.YtcdkkohklhmpgaaGreatDoor
