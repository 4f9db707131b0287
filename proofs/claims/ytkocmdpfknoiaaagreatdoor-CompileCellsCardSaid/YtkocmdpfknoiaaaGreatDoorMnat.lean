/- Functions on natural numbers, part 4: copies, sums. -/
import Derived.Test.YtkocmdpfknoiaaaGreatDoorMmem
import Derived.Lib.SliceRun
import Derived.Shelf.Spec.TrailingZeros
import Derived.Deep.DeepCutAuto
namespace Go.Proofs.YtkocmdpfknoiaaaGreatDoor

/-! ### Mnatd -/
section
/-! ### Natd -/
section
open Go.RowKit

def CloneRes (n : Nat) (f : Nat → Nat) (w : World) (e : Ending) (w' : World) : Prop := ∃ A c, e = .returned (.slice A n c) ∧ On w' w.heap.size A n c f ∧ Ext w w'
set_option maxRecDepth 100000 in
set_option maxHeartbeats 1000000 in
theorem clone_any (A : Option Addr) (n c : Nat) (f : Nat → Nat) (w : World) (hr : Rd w A n f) (hok : SlOk A n c) (hn : n ≤ 1099511627776) :
    Calls Tryz.prog 147 #[.slice A n c] w (CloneRes n f w) := by
  have HR := Lib.hid hr; clear hr
  have HL := Lib.hid hn; clear hn
  have q22 : ∀ (w : World) (a : Option Addr) (n c n' c' : Nat), (binOp .eql 64 (.slice a n c) (.slice none n' c')).run Tryz.prog w = .ok (.bool a.isNone) w := fun w a n c n' c' => Lib.run_eql_slice_nil w _ _ a n c n' c' Tryz.underlying64
  obtain ⟨_, _, h0⟩ := hok
  cases A with
  | none =>
    obtain ⟨rfl, rfl⟩ := h0 rfl
    clear h0
    go_enter Tryz.func147, Tryz.ntmps147
    go_wp2
    go_ret
    exact ⟨none, 0, rfl, On.nil _ _ _, Ext.refl _⟩
  | some ad =>
    clear h0
    have hnews : ∀ j u, (wl f n)[j]? = some u → (w.alloc (.cells #[] 154)).cell? (ad.add j) = some u := by
      intro j u hj
      by_cases hjn : j < n
      · obtain ⟨b, o, e, hb, hc⟩ := HR.out (by omega)
        injection e with e
        subst e
        rw [wl_get _ hjn] at hj
        injection hj with hj
        subst hj
        rw [World.cell?_alloc_lt _ _ _ (by unfold Addr.add; split <;> exact hb)]
        have := hc j hjn
        unfold Addr.add; split
        · rename_i h0; subst h0; exact this
        · exact this
      · rw [List.getElem?_eq_none (by rw [wl_len]; omega)] at hj; cases hj
    have HN := Lib.hid hnews; clear hnews
    obtain ⟨i0, hi0, hz0, hz1, hz2⟩ := info_parts infoU
    go_enter Tryz.func147, Tryz.ntmps147
    go_wp2_with (at_builtin; refine wpList_append_own _ rfl _ _ _ rfl w.heap.size 154 i0 _ 1 4 Tryz.underlying64 hi0 hz0 hz1 hz2 rfl (by omega) (.slice (some ⟨w.heap.size, 0, none⟩) 0 0) 0 [] rfl (World.ownsRow_made w #[] 0 (Nat.le_refl _) (Nat.zero_le _) rfl) ad n c (wl f n) rfl (by rw [wl_len]; omega) HN.out (by intro u hu; unfold wl at hu; simp at hu; obtain ⟨_, _, rfl⟩ := hu; rfl) (by have := HL.out; unfold maxLen; omega) (by have := HL.out; omega) (by simp) ?_; intro v1 w1 hown1 hg1 _)
    go_wp2
    go_ret
    rw [Nat.zero_add, List.nil_append] at hown1
    have hx : Ext w w1 := Below.grown (Ext.alloc w _) hg1 (by simp) (fun k hk => by simp [Value.ownBlock] at hk; omega)
    obtain ⟨A', c', rfl⟩ : ∃ A' c', v1 = .slice A' n c' := by
      rcases hown1.2 with ⟨rfl, hz⟩ | ⟨g, cap, cur, rfl, _⟩
      · exact ⟨none, 0, by rw [hz]⟩
      · exact ⟨_, _, rfl⟩
    exact ⟨A', c', rfl, hown1, hx⟩

/-- What a sum's second loop holds. -/
theorem sum_end {m n k L cy : Nat} {F : Nat → Nat} (hL : len m ≤ L) (hn : len n ≤ L) (hk : k ≤ L + 1) (hv : valN F k + cy * pB k = valN (dg m) k + n) (hF : ∀ i, k ≤ i → F i = dg m i) (hk2 : len n ≤ k) : (cy = 0 → valN F (L + 1) = m + n) ∧ (0 < cy → k < L + 1) := by
  constructor
  · intro h0
    have key : ∀ j, k + j ≤ L + 1 → valN F (k + j) = valN (dg m) (k + j) + n := by
      intro j
      induction j with
      | zero => intro _; rw [h0] at hv; simpa using hv
      | succ j ih =>
        intro hj
        rw [← Nat.add_assoc, valN, valN, ih (by omega), hF _ (by omega)]; omega
    have := key (L + 1 - k) (by omega)
    rw [show k + (L + 1 - k) = L + 1 by omega, valN_dg_all (by omega)] at this
    exact this
  · intro h0
    rcases Nat.lt_or_ge k (L + 1) with h | h
    · exact h
    · exfalso
      have : k = L + 1 := by omega
      subst this
      rw [valN_dg_all (by omega)] at hv
      have a := lt_pB hL
      have b := lt_pB hn
      rw [pB_succ] at hv
      have : 1 * (4294967296 * pB L) ≤ cy * (4294967296 * pB L) := Nat.mul_le_mul_right _ h0
      omega

theorem wf_dg (m : Nat) {n : Nat} : ∀ i, i < n → dg m i < 4294967296 := fun i _ => dg_lt m i

set_option maxRecDepth 100000 in
set_option maxHeartbeats 1000000 in
theorem sum_le (A B : Option Addr) (m n ca cb : Nat) (w : World) (ha : Rd w A (len m) (dg m)) (hb' : Rd w B (len n) (dg n)) (oa : SlOk A (len m) ca) (ob : SlOk B (len n) cb) (hl : len n ≤ len m) (hL : len m ≤ 1073741824) :
    Calls Tryz.prog 180 #[.slice A (len m) ca, .slice B (len n) cb] w (NatRes (m + n) w) := by
  have HA := Lib.hid ha; clear ha
  have HB := Lib.hid hb'; clear hb'
  have OA := Lib.hid oa; clear oa
  have OB := Lib.hid ob; clear ob
  obtain ⟨L, hLe⟩ : ∃ L, len m = L := ⟨_, rfl⟩
  obtain ⟨l, hle⟩ : ∃ l, len n = l := ⟨_, rfl⟩
  rw [hLe] at hl hL HA OA ⊢
  rw [hle] at hl HB OB ⊢
  have HLe := Lib.hid hLe; clear hLe
  have Hle := Lib.hid hle; clear hle
  go_enter Tryz.func180, Tryz.ntmps180
  go_wp2_with (first
    | (go_at_call 147; refine (clone_any _ _ _ _ _ HA.out OA.out (by omega)).mono ?_; rintro e w1 ⟨A1, c1, rfl, hon, hx⟩)
    | (at_builtin; refine app1 rfl _ _ rfl w.heap.size A1 L c1 (dg m) (by rfl) (hon.ext (Ext.alloc _ _)) _ 1 0 (by rfl) (by go_simp) (by omega) (by have := hx.size; simp; omega) ?_; intro g cap w2 hrow hg2 hat2 hlt2; have hcap : l ≤ cap := by (have := hrow.cap.1; omega))
    | (go_at_call 185; refine (addTo_any w.heap.size g (L + 1) cap 0 l cap cb (upd (dg m) L 0) (dg n) B _ hrow (by omega) (by omega) (HB.out.ext (ext_app (hx.trans (Ext.alloc _ _)) (hon.ext (Ext.alloc _ _)) hg2)) (fun h0 => HB.out.block_ne h0 hrow.lt.1) (upd_lt (wf_dg m) (by omega)) (wf_dg n)).mono ?_; rintro e w3 ⟨F1, cy1, rfl, hrow1, hfr1, hb1, ho1, hcy1, hv1⟩))
  have hx3 : Hid (Ext w w3) := ext_fr (ext_app (hx.trans (Ext.alloc _ _)) (hon.ext (Ext.alloc _ _)) hg2) hfr1 hrow.lt.1
  have hr3 : Hid (∀ i, l ≤ i → F1 i = dg m i) := fun i hi => by
    rw [ho1 i (.inr (by omega))]
    by_cases e : i = L
    · subst e; rw [upd_same, dg_high (by rw [HLe.out]; omega)]
    · exact upd_ne _ e
  have hv3 : Hid (valN F1 l + cy1 * pB l = valN (dg m) l + n) := by
    have e1 : valN (fun i => F1 (0 + i)) l = valN F1 l := valN_congr fun i _ => by rw [Nat.zero_add]
    have e2 : valN (fun i => upd (dg m) L 0 (0 + i)) l = valN (dg m) l := valN_congr fun i hi => by rw [Nat.zero_add, upd_ne _ (by omega)]
    rw [e1, e2, valN_dg_all (m := n) (by rw [Hle.out]; omega)] at hv1
    exact hv1
  have hR1 := Lib.hid hrow1
  have hB1 := Lib.hid hb1
  have hg1 : Hid (w.heap.size ≤ g) := hrow.lt.1
  clear hx hon hrow hg2 hat2 hlt2 hfr1 ho1 hv1 hrow1 hb1
  go_loopw [6, 7] (fun sc si wr => ∃ (k cy : Nat) (F : Nat → Nat), l ≤ k ∧ k ≤ L + 1 ∧ si = I k ∧ sc = U4 cy ∧ cy ≤ 1 ∧ Hid (Row wr w.heap.size g (L + 1) cap F) ∧ Hid (Ext w wr) ∧ Hid (∀ i, i < L + 1 → F i < 4294967296) ∧ Hid (∀ i, k ≤ i → F i = dg m i) ∧ Hid (valN F k + cy * pB k = valN (dg m) k + n)) (fun _ si _ => L + 1 - (intOf si).toNat)
  case atStart => exact ⟨l, cy1, F1, Nat.le_refl _, by omega, rfl, rfl, hcy1, hR1, hx3, hB1, hr3, hv3⟩
  case round =>
    clear hx3 hr3 hv3 hR1 hB1
    obtain ⟨k, cy, F, hlk, hkL, rfl, rfl, hcy, hR, hX, hB, hH, hv⟩ := hrel
    have hend := sum_end (m := m) (n := n) (L := L) (by rw [HLe.out]; omega) (by rw [Hle.out]; exact hl) hkL hv.out hH.out (by rw [Hle.out]; exact hlk)
    rcases Nat.eq_zero_or_pos cy with h0 | h0
    · have hE := Lib.hid (hend.1 h0)
      subst h0
      clear hend hv
      go_wp2_with (go_at_call 123; refine (trim_any _ _ _ F _ hR.out.rd hB.out hR.out.cap.1 hR.out.cap.2).mono ?_; rintro e w4 ⟨rfl, rfl⟩)
      go_ret
      exact natRes_of hR.out hB.out hE.out rfl hX.out
    · have hkl := hend.2 h0
      have hk1 : k ≤ L := by omega
      clear hend
      have c1 := hR.out.cell (k := k) (by omega)
      have f1 := hR.out.frozen k
      have hxx := hB.out k (by omega)
      obtain ⟨x, hxe⟩ : ∃ x, F k = x := ⟨_, rfl⟩
      rw [hxe] at c1 hxx
      obtain ⟨r, hr⟩ : ∃ r, (x + 0 + cy) % 4294967296 = r := ⟨_, rfl⟩
      obtain ⟨d, hd⟩ : ∃ d, (x + 0 + cy) / 4294967296 = d := ⟨_, rfl⟩
      have hd1 : d ≤ 1 := by omega
      have hr1 : r < 4294967296 := by omega
      have hs := Lib.hid (add_step (s := r) (x := x) (y := 0) (c := cy) (c' := d) hv.out (by omega))
      have hxd : Hid (x = dg m k) := by rw [← hxe]; exact hH.out k (Nat.le_refl _)
      have hX' := Lib.hid hxe; clear hxe
      have R := Lib.hid hr; clear hr
      have D := Lib.hid hd; clear hd
      have h0' : (0 : Int) < (cy : Int) := by omega
      go_wp2_with (go_at_call 186; refine (add32_at x 0 cy r d _ hxx (by omega) hcy R.out D.out).mono ?_; rintro e w4 ⟨rfl, rfl⟩)
      go_roundw
      case rel =>
        refine ⟨k + 1, d, upd F k r, by omega, by omega, by go_num, rfl, hd1, Row.set hR.out _ _, Ext.set hX.out hg1.out _, upd_lt hB.out hr1, ?_, ?_⟩
        · exact fun i hi => by rw [upd_ne _ (by omega)]; exact hH.out i (by omega)
        · show _ = _
          have := hs.out
          rw [pB_succ, valN_upd, valN, ← hxd.out]
          omega
      case measure => simp [intOf]; omega

set_option maxRecDepth 100000 in
set_option maxHeartbeats 1000000 in
theorem sum_gt (A B : Option Addr) (m n ca cb : Nat) (w : World) (ha : Rd w A (len m) (dg m)) (hb' : Rd w B (len n) (dg n)) (oa : SlOk A (len m) ca) (ob : SlOk B (len n) cb) (hl : len n < len m) (hL : len m ≤ 1073741824) :
    Calls Tryz.prog 180 #[.slice B (len n) cb, .slice A (len m) ca] w (NatRes (m + n) w) := by
  have HA := Lib.hid ha; clear ha
  have HB := Lib.hid hb'; clear hb'
  have OA := Lib.hid oa; clear oa
  have OB := Lib.hid ob; clear ob
  obtain ⟨L, hLe⟩ : ∃ L, len m = L := ⟨_, rfl⟩
  obtain ⟨l, hle⟩ : ∃ l, len n = l := ⟨_, rfl⟩
  rw [hLe] at hl hL HA OA ⊢
  rw [hle] at hl HB OB ⊢
  have HLe := Lib.hid hLe; clear hLe
  have Hle := Lib.hid hle; clear hle
  go_enter Tryz.func180, Tryz.ntmps180
  go_wp2_with (first
    | (go_at_call 147; refine (clone_any _ _ _ _ _ HA.out OA.out (by omega)).mono ?_; rintro e w1 ⟨A1, c1, rfl, hon, hx⟩)
    | (at_builtin; refine app1 rfl _ _ rfl w.heap.size A1 L c1 (dg m) (by rfl) (hon.ext (Ext.alloc _ _)) _ 1 0 (by rfl) (by go_simp) (by omega) (by have := hx.size; simp; omega) ?_; intro g cap w2 hrow hg2 hat2 hlt2; have hcap : l ≤ cap := by (have := hrow.cap.1; omega))
    | (go_at_call 185; refine (addTo_any w.heap.size g (L + 1) cap 0 l cap cb (upd (dg m) L 0) (dg n) B _ hrow (by omega) (by omega) (HB.out.ext (ext_app (hx.trans (Ext.alloc _ _)) (hon.ext (Ext.alloc _ _)) hg2)) (fun h0 => HB.out.block_ne h0 hrow.lt.1) (upd_lt (wf_dg m) (by omega)) (wf_dg n)).mono ?_; rintro e w3 ⟨F1, cy1, rfl, hrow1, hfr1, hb1, ho1, hcy1, hv1⟩))
  have hx3 : Hid (Ext w w3) := ext_fr (ext_app (hx.trans (Ext.alloc _ _)) (hon.ext (Ext.alloc _ _)) hg2) hfr1 hrow.lt.1
  have hr3 : Hid (∀ i, l ≤ i → F1 i = dg m i) := fun i hi => by
    rw [ho1 i (.inr (by omega))]
    by_cases e : i = L
    · subst e; rw [upd_same, dg_high (by rw [HLe.out]; omega)]
    · exact upd_ne _ e
  have hv3 : Hid (valN F1 l + cy1 * pB l = valN (dg m) l + n) := by
    have e1 : valN (fun i => F1 (0 + i)) l = valN F1 l := valN_congr fun i _ => by rw [Nat.zero_add]
    have e2 : valN (fun i => upd (dg m) L 0 (0 + i)) l = valN (dg m) l := valN_congr fun i hi => by rw [Nat.zero_add, upd_ne _ (by omega)]
    rw [e1, e2, valN_dg_all (m := n) (by rw [Hle.out]; omega)] at hv1
    exact hv1
  have hR1 := Lib.hid hrow1
  have hB1 := Lib.hid hb1
  have hg1 : Hid (w.heap.size ≤ g) := hrow.lt.1
  clear hx hon hrow hg2 hat2 hlt2 hfr1 ho1 hv1 hrow1 hb1
  go_loopw [6, 7] (fun sc si wr => ∃ (k cy : Nat) (F : Nat → Nat), l ≤ k ∧ k ≤ L + 1 ∧ si = I k ∧ sc = U4 cy ∧ cy ≤ 1 ∧ Hid (Row wr w.heap.size g (L + 1) cap F) ∧ Hid (Ext w wr) ∧ Hid (∀ i, i < L + 1 → F i < 4294967296) ∧ Hid (∀ i, k ≤ i → F i = dg m i) ∧ Hid (valN F k + cy * pB k = valN (dg m) k + n)) (fun _ si _ => L + 1 - (intOf si).toNat)
  case atStart => exact ⟨l, cy1, F1, Nat.le_refl _, by omega, rfl, rfl, hcy1, hR1, hx3, hB1, hr3, hv3⟩
  case round =>
    clear hx3 hr3 hv3 hR1 hB1
    obtain ⟨k, cy, F, hlk, hkL, rfl, rfl, hcy, hR, hX, hB, hH, hv⟩ := hrel
    have hend := sum_end (m := m) (n := n) (L := L) (by rw [HLe.out]; omega) (by rw [Hle.out]; exact Nat.le_of_lt hl) hkL hv.out hH.out (by rw [Hle.out]; exact hlk)
    rcases Nat.eq_zero_or_pos cy with h0 | h0
    · have hE := Lib.hid (hend.1 h0)
      subst h0
      clear hend hv
      go_wp2_with (go_at_call 123; refine (trim_any _ _ _ F _ hR.out.rd hB.out hR.out.cap.1 hR.out.cap.2).mono ?_; rintro e w4 ⟨rfl, rfl⟩)
      go_ret
      exact natRes_of hR.out hB.out hE.out rfl hX.out
    · have hkl := hend.2 h0
      have hk1 : k ≤ L := by omega
      clear hend
      have c1 := hR.out.cell (k := k) (by omega)
      have f1 := hR.out.frozen k
      have hxx := hB.out k (by omega)
      obtain ⟨x, hxe⟩ : ∃ x, F k = x := ⟨_, rfl⟩
      rw [hxe] at c1 hxx
      obtain ⟨r, hr⟩ : ∃ r, (x + 0 + cy) % 4294967296 = r := ⟨_, rfl⟩
      obtain ⟨d, hd⟩ : ∃ d, (x + 0 + cy) / 4294967296 = d := ⟨_, rfl⟩
      have hd1 : d ≤ 1 := by omega
      have hr1 : r < 4294967296 := by omega
      have hs := Lib.hid (add_step (s := r) (x := x) (y := 0) (c := cy) (c' := d) hv.out (by omega))
      have hxd : Hid (x = dg m k) := by rw [← hxe]; exact hH.out k (Nat.le_refl _)
      have hX' := Lib.hid hxe; clear hxe
      have R := Lib.hid hr; clear hr
      have D := Lib.hid hd; clear hd
      have h0' : (0 : Int) < (cy : Int) := by omega
      go_wp2_with (go_at_call 186; refine (add32_at x 0 cy r d _ hxx (by omega) hcy R.out D.out).mono ?_; rintro e w4 ⟨rfl, rfl⟩)
      go_roundw
      case rel =>
        refine ⟨k + 1, d, upd F k r, by omega, by omega, by go_num, rfl, hd1, Row.set hR.out _ _, Ext.set hX.out hg1.out _, upd_lt hB.out hr1, ?_, ?_⟩
        · exact fun i hi => by rw [upd_ne _ (by omega)]; exact hH.out i (by omega)
        · show _ = _
          have := hs.out
          rw [pB_succ, valN_upd, valN, ← hxd.out]
          omega
      case measure => simp [intOf]; omega

theorem sum_any (A B : Option Addr) (m n ca cb : Nat) (w : World) (ha : Rd w A (len m) (dg m)) (hb' : Rd w B (len n) (dg n)) (oa : SlOk A (len m) ca) (ob : SlOk B (len n) cb) (hL : len m ≤ 1073741824) (hM : len n ≤ 1073741824) :
    Calls Tryz.prog 180 #[.slice A (len m) ca, .slice B (len n) cb] w (NatRes (m + n) w) := by
  rcases Nat.lt_or_ge (len m) (len n) with h | h
  · rw [Nat.add_comm]; exact sum_gt B A n m cb ca w hb' ha ob oa h hM
  · exact sum_le A B m n ca cb w ha hb' oa ob h hL
end

/-! ### Nate -/
section
open Go.RowKit

theorem dif_end {m n k L bw : Nat} {F : Nat → Nat} (hL : len m = L) (hnm : n ≤ m) (hk : k ≤ L) (hb : ∀ i, i < L → F i < 4294967296) (hv : valN F k + n = valN (dg m) k + bw * pB k) (hF : ∀ i, k ≤ i → i < L → F i = dg m i) : (bw = 0 → valN F L = m - n) ∧ (0 < bw → k < L) := by
  constructor
  · intro h0
    have key : ∀ j, k + j ≤ L → valN F (k + j) + n = valN (dg m) (k + j) := by
      intro j
      induction j with
      | zero => intro _; rw [h0] at hv; simpa using hv
      | succ j ih =>
        intro hj
        have := ih (by omega)
        rw [← Nat.add_assoc, valN, valN, hF _ (by omega) (by omega)]; omega
    have := key (L - k) (by omega)
    rw [show k + (L - k) = L by omega, valN_dg_all (by omega)] at this
    omega
  · intro h0
    rcases Nat.lt_or_ge k L with h | h
    · exact h
    · exfalso
      have : k = L := by omega
      subst this
      rw [valN_dg_all (by omega)] at hv
      have a := valN_lt hb
      have : 1 * pB k ≤ bw * pB k := Nat.mul_le_mul_right _ h0
      omega

set_option maxRecDepth 100000 in
set_option maxHeartbeats 1000000 in
theorem difference_any (A B : Option Addr) (m n ca cb : Nat) (w : World) (ha : Rd w A (len m) (dg m)) (hb' : Rd w B (len n) (dg n)) (oa : SlOk A (len m) ca) (hnm : n ≤ m) (hL : len m ≤ 1073741824) :
    Calls Tryz.prog 181 #[.slice A (len m) ca, .slice B (len n) cb] w (NatRes (m - n) w) := by
  have hl := len_mono hnm
  have HA := Lib.hid ha; clear ha
  have HB := Lib.hid hb'; clear hb'
  have OA := Lib.hid oa; clear oa
  obtain ⟨L, hLe⟩ : ∃ L, len m = L := ⟨_, rfl⟩
  obtain ⟨l, hle⟩ : ∃ l, len n = l := ⟨_, rfl⟩
  rw [hLe] at hl hL HA OA ⊢
  rw [hle] at hl HB ⊢
  have HLe := Lib.hid hLe; clear hLe
  have Hle := Lib.hid hle; clear hle
  go_enter Tryz.func181, Tryz.ntmps181
  go_wp2_with (go_at_call 147; refine (clone_any _ _ _ _ _ HA.out OA.out (by omega)).mono ?_; rintro e w1 ⟨A1, c1, rfl, hon, hx⟩)
  have hON := Lib.hid hon
  have hXX := Lib.hid hx
  clear hon hx
  go_loopw [6, 13] (fun sc si wr => ∃ (k cy : Nat) (F : Nat → Nat), k ≤ l ∧ si = I k ∧ sc = U4 cy ∧ cy ≤ 1 ∧ Hid (On wr w.heap.size A1 L c1 F) ∧ Hid (Ext w wr) ∧ Hid (∀ i, i < L → F i < 4294967296) ∧ Hid (∀ i, k ≤ i → i < L → F i = dg m i) ∧ Hid (valN F k + valN (dg n) k = valN (dg m) k + cy * pB k)) (fun _ si _ => l - (intOf si).toNat)
  case atStart => exact ⟨0, 0, dg m, Nat.zero_le _, rfl, rfl, by omega, hON, hXX, wf_dg m, (fun _ _ _ => rfl), by show _ = _; simp [valN]⟩
  case round =>
    clear hON hXX
    obtain ⟨k, cy, F, hk, rfl, rfl, hcy, hR, hX, hB, hH, hv⟩ := hrel
    by_cases hlt : k < l
    · obtain ⟨b2, o2, rfl, hb2, c2⟩ := (HB.out.ext hX.out).at_ hlt
      obtain ⟨rfl, hz, _⟩ | ⟨g, rfl, hrow⟩ := hR.out.cases
      · omega
      have hg : Hid (w.heap.size ≤ g) := hrow.lt.1
      have hR := Lib.hid hrow
      clear hrow
      have f1 := hR.out.frozen k
      have c1 := hR.out.cell (k := k) (by omega)
      have hx := hB.out k (by omega)
      have hy := dg_lt n k
      have hFk : Hid (F k = dg m k) := hH.out k (Nat.le_refl _) (by omega)
      obtain ⟨x, hxe⟩ : ∃ x, F k = x := ⟨_, rfl⟩
      obtain ⟨y, hye⟩ : ∃ y, dg n k = y := ⟨_, rfl⟩
      rw [hxe] at c1 hx
      rw [hye] at c2 hy
      have HX := Lib.hid hxe; clear hxe
      have HY := Lib.hid hye; clear hye
      obtain ⟨r, hr⟩ : ∃ r, (x + 4294967296 - y - cy) % 4294967296 = r := ⟨_, rfl⟩
      obtain ⟨d, hd⟩ : ∃ d, brw x y cy = d := ⟨_, rfl⟩
      obtain ⟨hs1, hd1⟩ := brw_step hx hy hcy
      rw [hr, hd] at hs1
      rw [hd] at hd1
      have hr1 : r < 4294967296 := by omega
      have hs := Lib.hid (sub_step (s := r) (x := x) (y := y) (c := cy) (c' := d) hv.out hs1)
      clear hs1
      have R := Lib.hid hr; clear hr
      have D := Lib.hid hd; clear hd
      go_wp2_with fail
      go_region_with ((go_at_call 187; refine (sub32_at x y cy r d _ hx hy hcy R.out D.out).mono ?_; rintro e w2 ⟨rfl, rfl⟩))
      all_goals
        go_wp2_with fail
        go_roundw
        case rel =>
          refine ⟨k + 1, d, upd F k r, by omega, by go_num, rfl, hd1, (Row.set hR.out.drew _ _).on, (Ext.set hX.out hg.out _).trans (Ext.drew _), upd_lt hB.out hr1, ?_, ?_⟩
          · exact fun i hi h2 => by rw [upd_ne _ (by omega)]; exact hH.out i (by omega) h2
          · show _ = _
            rw [pB_succ, valN_upd, valN, valN, ← hFk.out, HX.out, HY.out]
            exact hs.out
        case measure => simp [intOf]; omega
    · obtain rfl : k = l := by omega
      have hv' : Hid (valN F k + n = valN (dg m) k + cy * pB k) := by
        have := hv.out
        rw [valN_dg_all (m := n) (by rw [Hle.out]; omega)] at this
        exact this
      clear hv
      go_wp2
      go_loopw [6, 8] (fun sc si wr => ∃ (j cy : Nat) (F : Nat → Nat), j ≤ L ∧ k ≤ j ∧ si = I j ∧ sc = U4 cy ∧ cy ≤ 1 ∧ Hid (On wr w.heap.size A1 L c1 F) ∧ Hid (Ext w wr) ∧ Hid (∀ i, i < L → F i < 4294967296) ∧ Hid (∀ i, j ≤ i → i < L → F i = dg m i) ∧ Hid (valN F j + n = valN (dg m) j + cy * pB j)) (fun _ si _ => L - (intOf si).toNat)
      case atStart => exact ⟨k, cy, F, hl, Nat.le_refl _, rfl, rfl, hcy, hR, hX, hB, hH, hv'⟩
      case round =>
        clear hv' hR hX hB hH hcy
        obtain ⟨j, cy, F, hj, hkj, rfl, rfl, hcy, hR, hX, hB, hH, hv⟩ := hrel
        have hend := dif_end (m := m) (n := n) (L := L) HLe.out hnm hj hB.out hv.out hH.out
        rcases Nat.eq_zero_or_pos cy with h0 | h0
        · have hE := Lib.hid (hend.1 h0)
          subst h0
          clear hend hv
          go_wp2_with (go_at_call 123; refine (trim_any _ _ _ F _ hR.out.rd hB.out hR.out.ok.1 hR.out.ok.2.1).mono ?_; rintro e w4 ⟨rfl, rfl⟩)
          go_ret
          obtain ⟨rfl, hz, rfl⟩ | ⟨g, rfl, hrow⟩ := hR.out.cases
          · subst hz
            have h1 := hE.out
            rw [← h1]
            exact ⟨none, 0, rfl, by show On _ _ none (len 0) 0 _; rw [len_zero]; exact On.nil _ _ _, hX.out⟩
          · exact natRes_of hrow hB.out hE.out rfl hX.out
        · have hkl := hend.2 h0
          clear hend
          obtain ⟨rfl, hz, _⟩ | ⟨g, rfl, hrow⟩ := hR.out.cases
          · omega
          have hg : Hid (w.heap.size ≤ g) := hrow.lt.1
          have hR := Lib.hid hrow
          clear hrow
          have f1 := hR.out.frozen j
          have c1 := hR.out.cell (k := j) (by omega)
          have hxx := hB.out j (by omega)
          obtain ⟨x, hxe⟩ : ∃ x, F j = x := ⟨_, rfl⟩
          rw [hxe] at c1 hxx
          obtain ⟨r, hr⟩ : ∃ r, (x + 4294967296 - 0 - cy) % 4294967296 = r := ⟨_, rfl⟩
          obtain ⟨d, hd⟩ : ∃ d, brw x 0 cy = d := ⟨_, rfl⟩
          obtain ⟨hs1, hd1⟩ := brw_step (y := 0) hxx (by omega) hcy
          rw [hr, hd] at hs1
          rw [hd] at hd1
          have hr1 : r < 4294967296 := by omega
          have hs := Lib.hid (sub_step (s := r) (x := x) (y := 0) (c := cy) (c' := d) hv.out hs1)
          clear hs1
          have hxd : Hid (x = dg m j) := by rw [← hxe]; exact hH.out j (Nat.le_refl _) (by omega)
          clear hxe
          have R := Lib.hid hr; clear hr
          have D := Lib.hid hd; clear hd
          have h0' : (0 : Int) < (cy : Int) := by omega
          go_wp2_with (go_at_call 187; refine (sub32_at x 0 cy r d _ hxx (by omega) hcy R.out D.out).mono ?_; rintro e w4 ⟨rfl, rfl⟩)
          go_roundw
          case rel =>
            refine ⟨j + 1, d, upd F j r, by omega, by omega, by go_num, rfl, hd1, (Row.set hR.out _ _).on, Ext.set hX.out hg.out _, upd_lt hB.out hr1, ?_, ?_⟩
            · exact fun i hi h2 => by rw [upd_ne _ (by omega)]; exact hH.out i (by omega) h2
            · show _ = _
              have := hs.out
              rw [pB_succ, valN_upd, valN, ← hxd.out]
              omega
          case measure => simp [intOf]; omega
end

/-! ### Natf -/
section
open Go.RowKit

set_option maxRecDepth 100000 in
set_option maxHeartbeats 1000000 in
theorem shiftLeft_any (A : Option Addr) (m n ca : Nat) (w : World) (ha : Rd w A (len m) (dg m)) (hL : len m ≤ 1073741824) (hn : n ≤ 1073741824) :
    Calls Tryz.prog 119 #[.slice A (len m) ca, I n] w (NatRes (m * 2 ^ n) w) := by
  have HA := Lib.hid ha; clear ha
  obtain ⟨L, hLe⟩ : ∃ L, len m = L := ⟨_, rfl⟩
  rw [hLe] at hL HA ⊢
  have HLe := Lib.hid hLe; clear hLe
  obtain ⟨q, hq'⟩ : ∃ q, n / 32 = q := ⟨_, rfl⟩
  obtain ⟨r, hr'⟩ : ∃ r, n % 32 = r := ⟨_, rfl⟩
  have hr32 : r < 32 := by omega
  have hqn : q ≤ n := by omega
  have hq : (n : Int) / 32 = (q : Int) := by omega
  have hr : (n : Int) % 32 = (r : Int) := by omega
  have HQ := Lib.hid hq'; clear hq'
  have HR := Lib.hid hr'; clear hr'
  obtain ⟨w1, hrun, hrow, hx⟩ := run_make_row w (q + L + 1) (by omega)
  rw [show ((q + L + 1 : Nat) : Int) = (q : Int) + (L : Int) + 1 by omega] at hrun
  have hR0 := Lib.hid hrow
  have hX0 := Lib.hid hx
  clear hrow hx
  go_enter Tryz.func119, Tryz.ntmps119
  go_wp2
  clear hrun
  go_loopw [23] (fun si wr => ∃ (i c : Nat) (F : Nat → Nat), i ≤ L ∧ si = I i ∧ c < 2 ^ r ∧ F (q + i) = c ∧ Hid (Row wr w.heap.size w.heap.size (q + L + 1) (q + L + 1) F) ∧ Hid (Ext w wr) ∧ Hid (∀ j, q + i < j → F j = 0) ∧ Hid (∀ j, j < q + L + 1 → F j < 4294967296) ∧ Hid (valN F (q + i) + c * pB (q + i) = m % pB i * 2 ^ n)) (fun si _ => L - (intOf si).toNat)
  case atStart => exact ⟨0, 0, _, Nat.zero_le _, rfl, p2_pos _, rfl, hR0, hX0, (fun _ _ => rfl), (fun _ _ => by show (0:Nat) < _; decide), by show _ = _; rw [valN_zeros (f := fun _ => 0) (t := 0) (Nat.zero_le _) (fun _ _ _ => rfl)]; simp [valN, pB_zero, Nat.mod_one]⟩
  case round =>
    clear hR0 hX0
    obtain ⟨i, c, F, hi, rfl, hc, hFc, hR, hX, hZ, hB, hv⟩ := hrel
    by_cases hlt : i < L
    · obtain ⟨b2, o2, rfl, hb2, c2⟩ := (HA.out.ext hX.out).at_ hlt
      have f1 := hR.out.frozen (q + i)
      have f2 := hR.out.frozen (q + i + 1)
      have c1 := hR.out.cell (k := q + i) (by omega)
      have c3 := hR.out.cell (k := q + i + 1) (by omega)
      rw [hFc] at c1
      rw [hZ.out (q + i + 1) (by omega)] at c3
      have HF := Lib.hid hFc; clear hFc
      have hxl := dg_lt m i
      obtain ⟨x, hxe⟩ : ∃ x, dg m i = x := ⟨_, rfl⟩
      rw [hxe] at c2 hxl
      have HX := Lib.hid hxe; clear hxe
      obtain ⟨p, hp⟩ : ∃ p, x * 2 ^ r = p := ⟨_, rfl⟩
      have hpb : p < 18446744073709551616 := by
        have h1 : x * 2 ^ r ≤ 4294967295 * 2 ^ r := Nat.mul_le_mul_right _ (by omega)
        have h2 := p2_le (p := r) (q := 31) (by omega)
        omega
      have ew : IntKind.u64.wrap ((x : Int) * 2 ^ r) = (p : Int) := by
        have : ((x : Int) * 2 ^ r) = (p : Int) := by rw [← hp]; simp
        rw [this]; show (p : Int) % 18446744073709551616 = p; omega
      obtain ⟨h1, h2⟩ := shl_or (x := x) hr32 hc
      have h3 := shl_carry (m := m) (n := n) (i := i) (c := c) (by rw [HR.out]; exact hc)
      have hs := Lib.hid (shl_step (m := m) (n := n) (i := i) (S := valN F (q + i)) (c := c) (by rw [HQ.out]; exact hv.out))
      have hs2 := hs.out
      rw [HQ.out, HR.out, HX.out] at hs2
      rw [HR.out, HX.out] at h3
      rw [hp] at h1 h2 h3 hs2
      obtain ⟨lo, hlo⟩ : ∃ lo, (c + p) % 4294967296 = lo := ⟨_, rfl⟩
      obtain ⟨hi', hhi⟩ : ∃ hi', (c + p) / 4294967296 = hi' := ⟨_, rfl⟩
      rw [hlo] at h1 hs2
      rw [hhi] at h2 hs2 h3
      have hcb : c < 4294967296 := by
        have := p2_le (p := r) (q := 31) (by omega); omega
      have e1 : bits BinOp.or IntKind.u32 (c : Int) ((p : Int) % 4294967296) = (lo : Int) := by
        rw [show (p : Int) % 4294967296 = ((p % 4294967296 : Nat) : Int) by omega, or_nat32 hcb (Nat.mod_lt _ (by decide)), h1]
      have e2 : (p : Int) / 4294967296 = (hi' : Int) := by omega
      have hlo' : lo < 4294967296 := by omega
      have hhi' : hi' < 4294967296 := by
        have := p2_le (p := r) (q := 31) (by omega); omega
      have HS2 := Lib.hid hs2
      have H3 : Hid (hi' < 2 ^ r) := h3
      clear hp h1 h2 h3 hs hs2 hlo hhi hv
      go_wp2
      go_roundw
      case rel =>
        refine ⟨i + 1, hi', upd (upd F (q + i) lo) (q + i + 1) hi', by omega, by go_num, H3.out, ?_, ?_, ?_, ?_, upd_lt (upd_lt hB.out hlo') hhi', ?_⟩
        · show _ = _
          rw [show q + (i + 1) = q + i + 1 by omega, upd_same]
        · exact Row.set (Row.set hR.out _ _) _ _
        · exact Ext.set (Ext.set hX.out (Nat.le_refl _) _) (Nat.le_refl _) _
        · exact fun j hj => by rw [upd_ne _ (by omega), upd_ne _ (by omega)]; exact hZ.out j (by omega)
        · show _ = _
          rw [show q + (i + 1) = q + i + 1 by omega, valN_upd_ge _ (Nat.le_refl _), valN_upd]
          exact HS2.out
      case measure => simp [intOf]; omega
    · obtain rfl : i = L := by omega
      have hE : Hid (valN F (q + i + 1) = m * 2 ^ n) := by
        show _ = _
        rw [valN, hFc, hv.out, Nat.mod_eq_of_lt (lt_pB (by rw [HLe.out]; omega))]
      clear hFc hv
      go_wp2_with (go_at_call 123; refine (trim_any _ _ _ F _ hR.out.rd hB.out hR.out.cap.1 hR.out.cap.2).mono ?_; rintro e w4 ⟨rfl, rfl⟩)
      go_ret
      exact natRes_of hR.out hB.out hE.out rfl hX.out
end
end

/-! ### Mnatg -/
section
/-! ### Natg -/
section
open Go.RowKit

set_option maxRecDepth 100000 in
set_option maxHeartbeats 1000000 in
theorem shiftRight_any (A : Option Addr) (m n ca : Nat) (w : World) (ha : Rd w A (len m) (dg m)) (oa : SlOk A (len m) ca) (hL : len m ≤ 1073741824) (hn : n ≤ 1073741824) :
    Calls Tryz.prog 121 #[.slice A (len m) ca, I n] w (NatRes (m / 2 ^ n) w) := by
  have HA := Lib.hid ha; clear ha
  obtain ⟨hca, hcm, _⟩ := oa
  unfold maxLen at hcm
  obtain ⟨L, hLe⟩ : ∃ L, len m = L := ⟨_, rfl⟩
  rw [hLe] at hL HA hca ⊢
  have HLe := Lib.hid hLe; clear hLe
  obtain ⟨q, hq'⟩ : ∃ q, n / 32 = q := ⟨_, rfl⟩
  obtain ⟨r, hr'⟩ : ∃ r, n % 32 = r := ⟨_, rfl⟩
  have hr32 : r < 32 := by omega
  have hqn : q ≤ n := by omega
  have hq : (n : Int) / 32 = (q : Int) := by omega
  have hr : (n : Int) % 32 = (r : Int) := by omega
  have HQ := Lib.hid hq'; clear hq'
  have HR := Lib.hid hr'; clear hr'
  have hl : len (m / 2 ^ n) ≤ L - q := by
    rw [two_pow_split, ← Nat.div_div_eq_div_mul, HQ.out]
    have := len_mono (Nat.div_le_self (m / pB q) (2 ^ (n % 32)))
    rw [len_div, HLe.out] at this
    exact this
  have HL := Lib.hid hl; clear hl
  by_cases hql : L ≤ q
  · have h0 : m / 2 ^ n = 0 := by have := HL.out; exact len_eq_zero.1 (by omega)
    have H0 := Lib.hid h0; clear h0
    go_enter Tryz.func121, Tryz.ntmps121
    go_wp2
    go_ret
    exact ⟨none, 0, by rw [H0.out, len_zero]; rfl, by show On _ _ none (len (m / 2 ^ n)) 0 _; rw [H0.out, len_zero]; exact On.nil _ _ _, Ext.refl _⟩
  · obtain ⟨b, o, rfl, hb, hc⟩ := HA.out (by omega)
    have hsub : Hid (Rd w (some ⟨b, o + q, none⟩) (L - q) (fun i => dg m (q + i))) := fun _ => ⟨b, o + q, rfl, hb, fun i hi => by rw [Nat.add_assoc]; exact hc (q + i) (by omega)⟩
    have HC := Lib.hid hc; clear hc
    have HB := Lib.hid hb; clear hb
    obtain ⟨K, hK'⟩ : ∃ K, L - q = K := ⟨_, rfl⟩
    have hK : L = q + K := by omega
    have hK0 : 0 < K := by omega
    rw [hK'] at hsub HL
    clear hK'
    subst hK
    have hcq : ca ≠ q := by omega
    have h1 : ((K : Int) = 0) = False := by simp; omega
    have hok : Hid (SlOk (some ⟨b, o + q, none⟩) K (ca - q)) := ⟨by omega, by unfold maxLen; omega, fun e => by cases e⟩
    go_enter Tryz.func121, Tryz.ntmps121
    go_wp2_with (go_at_call 147; refine (clone_any _ _ _ _ _ hsub.out hok.out (by omega)).mono ?_; rintro e w1 ⟨A1, c1, rfl, hon, hx⟩)
    have hON := Lib.hid hon
    have hXX := Lib.hid hx
    clear hon hx
    obtain ⟨rfl, hz, _⟩ | ⟨g, rfl, hrow⟩ := hON.out.cases
    · omega
    have hR0 := Lib.hid hrow
    have hg : Hid (w.heap.size ≤ g) := hrow.lt.1
    clear hrow hON
    go_loopw [23] (fun si wr => ∃ (i : Nat) (F : Nat → Nat), i ≤ K ∧ si = I i ∧ Hid (Row wr w.heap.size g K c1 F) ∧ Hid (Ext w wr) ∧ Hid (∀ j, j < i → F j = dg (m / 2 ^ n) j) ∧ Hid (∀ j, i ≤ j → F j = dg m (q + j)) ∧ Hid (∀ j, j < K → F j < 4294967296)) (fun si _ => K - (intOf si).toNat)
    case atStart => exact ⟨0, _, Nat.zero_le _, rfl, hR0, hXX, (fun j h => by omega), (fun _ _ => rfl), (fun _ _ => dg_lt _ _)⟩
    case round =>
      clear hR0 hXX
      obtain ⟨i, F, hi, rfl, hR, hX, hD, hS, hB'⟩ := hrel
      by_cases hlt : i < K
      · have c1 := hR.out.cell (k := i) hlt
        have f1 := hR.out.frozen i
        have hxl := hB'.out i hlt
        obtain ⟨x, hxe⟩ : ∃ x, F i = x := ⟨_, rfl⟩
        rw [hxe] at c1 hxl
        have hxd : dg m (q + i) = x := by rw [← hxe]; exact (hS.out i (Nat.le_refl _)).symm
        have HX := Lib.hid hxd; clear hxd hxe
        obtain ⟨v, hv⟩ : ∃ v, x / 2 ^ r = v := ⟨_, rfl⟩
        have ev : (x : Int) / 2 ^ r = (v : Int) := by rw [← hv]; simp
        have hvb : v < 4294967296 := by rw [← hv]; exact Nat.lt_of_le_of_lt (Nat.div_le_self _ _) hxl
        have hdg := dg_shr m n i
        rw [HQ.out, HR.out, HX.out] at hdg
        by_cases hlast : q + i + 1 < q + K
        · have c2 : wr.cell? ⟨b, o + (q + i + 1), none⟩ = some (U4 (dg m (q + i + 1))) := (hX.out.old.1 _ _ HB.out).trans (HC.out (q + i + 1) hlast)
          have hyl := dg_lt m (q + i + 1)
          obtain ⟨y, hye⟩ : ∃ y, dg m (q + i + 1) = y := ⟨_, rfl⟩
          rw [hye] at c2 hyl hdg
          clear hye
          obtain ⟨u, hu⟩ : ∃ u, y * 4294967296 / 2 ^ r = u := ⟨_, rfl⟩
          have eu : (y : Int) * 4294967296 / 2 ^ r = (u : Int) := by rw [← hu]; simp
          obtain ⟨t, ht⟩ : ∃ t, u % 4294967296 = t := ⟨_, rfl⟩
          have htb : t < 4294967296 := by omega
          have et : (u : Int) % 4294967296 = (t : Int) := by omega
          have hor := shr_or (y := y) hxl hr32
          rw [hv, hu, ht, ← hdg] at hor
          obtain ⟨z, hz⟩ : ∃ z, dg (m / 2 ^ n) i = z := ⟨_, rfl⟩
          rw [hz] at hor
          have ez : bits BinOp.or IntKind.u32 (v : Int) (t : Int) = (z : Int) := by rw [or_nat32 hvb htb, hor]
          have hzb : z < 4294967296 := by rw [← hz]; exact dg_lt _ _
          have ezz : Hid (bits BinOp.or IntKind.u32 (v : Int) ((y : Int) * 4294967296 / 2 ^ r % 4294967296) = (z : Int)) := by
            show _ = _
            rw [eu, et, ez]
          have HZ := Lib.hid hz
          clear hz hor ht hu hdg hv
          have hbg : b ≠ g := by have := HB.out; have := hg.out; omega
          have i1 : (0 : Int) ≤ (i : Int) := by omega
          have i2 : (i : Int) < (K : Int) := by omega
          have i3 : (0 : Int) ≤ (q : Int) + (i : Int) + 1 := by omega
          have i4 : (q : Int) + (i : Int) + 1 < (q : Int) + (K : Int) := by omega
          have e3 : IntKind.i64.wrap ((q : Int) + (i : Int)) = (q : Int) + (i : Int) := IntWalk.i64_in _ (by omega)
          have e4 : IntKind.i64.wrap ((q : Int) + (i : Int) + 1) = (q : Int) + (i : Int) + 1 := IntWalk.i64_in _ (by omega)
          have e5 : ((q : Int) + (i : Int) + 1).toNat = q + i + 1 := by omega
          have hfr : Hid (Ext w (wr.setCell ⟨g, i, none⟩ (U4 v))) := Ext.set hX.out hg.out _
          go_wp2
          go_region_with (fail)
          all_goals
            go_wp2_with fail
            go_roundw
            case rel =>
              rw [ezz.out]
              refine ⟨i + 1, upd (upd F i v) i z, by omega, by go_num, Row.set (Row.set hR.out _ _).drew _ _, (Ext.set (hfr.out.trans (Ext.drew _)) hg.out _), ?_, ?_, upd_lt (upd_lt hB'.out hvb) hzb⟩
              · exact fun j hj => by
                  by_cases e : j = i
                  · subst e; rw [upd_same, HZ.out]
                  · rw [upd_ne _ e, upd_ne _ e]; exact hD.out j (by omega)
              · exact fun j hj => by rw [upd_ne _ (by omega), upd_ne _ (by omega)]; exact hS.out j (by omega)
            case measure => simp [intOf]; omega
        · have hi1 : i + 1 = K := by omega
          have hv2 : Hid (v = dg (m / 2 ^ n) i) := by
            show _ = _
            rw [dg_high (m := m) (i := q + i + 1) (by rw [HLe.out]; omega), Nat.zero_mul, Nat.add_zero, hv, Nat.mod_eq_of_lt hvb] at hdg
            exact hdg.symm
          clear hdg hv
          go_wp2
          go_roundw
          case rel =>
            refine ⟨i + 1, upd F i v, by omega, by go_num, Row.set hR.out _ _, Ext.set hX.out hg.out _, ?_, ?_, upd_lt hB'.out hvb⟩
            · exact fun j hj => by
                by_cases e : j = i
                · subst e; rw [upd_same, ← hv2.out]
                · rw [upd_ne _ e]; exact hD.out j (by omega)
            · exact fun j hj => by rw [upd_ne _ (by omega)]; exact hS.out j (by omega)
          case measure => simp [intOf]; omega
      · obtain rfl : i = K := by omega
        have hE : Hid (valN F i = m / 2 ^ n) := by
          show _ = _
          rw [valN_congr hD.out, valN_dg_all HL.out]
        go_wp2_with (go_at_call 123; refine (trim_any _ _ _ F _ hR.out.rd hB'.out hR.out.cap.1 hR.out.cap.2).mono ?_; rintro e w4 ⟨rfl, rfl⟩)
        go_ret
        exact natRes_of hR.out hB'.out hE.out rfl hX.out

set_option maxRecDepth 100000 in
set_option maxHeartbeats 1000000 in
theorem ofInt_any (n : Int) (w : World) (h1 : -9223372036854775808 ≤ n) (h2 : n ≤ 9223372036854775807) :
    Calls Tryz.prog 68 #[I n] w (NatRes n.natAbs w) := by
  obtain ⟨a, ha⟩ : ∃ a, n.natAbs = a := ⟨_, rfl⟩
  obtain ⟨lo, hlo⟩ : ∃ lo, dg a 0 = lo := ⟨_, rfl⟩
  obtain ⟨hi, hhi⟩ : ∃ hi, dg a 1 = hi := ⟨_, rfl⟩
  have hab : a ≤ 9223372036854775808 := by omega
  have e1 : (a : Int) % 4294967296 = (lo : Int) := by rw [dg_zero] at hlo; omega
  have e2' : a / 4294967296 % 4294967296 = hi := by rw [← hhi]; rfl
  have e2 : (a : Int) / 4294967296 % 4294967296 = (hi : Int) := by omega
  have HR : Hid (Row (w.alloc (.cells #[U4 lo, U4 hi] 154)) w.heap.size w.heap.size 2 2 (dg a)) := by
    have := World.ownsRow_lit (e := 154) (size := 1) w #[U4 lo, U4 hi] 2 (Nat.le_refl _) (by unfold maxLen; omega) rfl
    show World.ownsRow _ _ _ _ _ _ _
    rw [show wl (dg a) 2 = [U4 lo, U4 hi] by rw [← hlo, ← hhi]; rfl]
    exact this
  have HE : Hid (valN (dg a) 2 = a) := by
    refine valN_dg_all (len_le ?_)
    show a < 4294967296 ^ 2
    omega
  clear e2' hlo hhi
  rw [ha]
  by_cases h : n < 0
  · have e0 : IntKind.u64.wrap (-IntKind.u64.wrap n) = (a : Int) := by
      show (-(n % 18446744073709551616)) % 18446744073709551616 = _
      omega
    clear ha hab
    go_enter Tryz.func68, Tryz.ntmps68
    go_wp2_with (go_at_call 123; refine (trim_any _ 2 2 (dg a) _ HR.out.rd (wf_dg a) HR.out.cap.1 HR.out.cap.2).mono ?_; rintro e w4 ⟨rfl, rfl⟩)
    go_ret
    exact natRes_of HR.out (wf_dg a) HE.out rfl (Ext.alloc _ _)
  · have e0 : IntKind.u64.wrap n = (a : Int) := by
      show n % 18446744073709551616 = _
      omega
    have h' : 0 ≤ n := by omega
    clear ha hab
    go_enter Tryz.func68, Tryz.ntmps68
    go_wp2_with (go_at_call 123; refine (trim_any _ 2 2 (dg a) _ HR.out.rd (wf_dg a) HR.out.cap.1 HR.out.cap.2).mono ?_; rintro e w4 ⟨rfl, rfl⟩)
    go_ret
    exact natRes_of HR.out (wf_dg a) HE.out rfl (Ext.alloc _ _)
end

/-! ### Nath -/
section
open Go.RowKit

/-- One step of the inner loop of a product. -/
theorem mul_step {V W x y z c i j t N : Nat} (h : V + c * pB (i + j) = W + x * (N % pB j) * pB i) (hy : dg N j = y) (ht : c + (x * y + z) = t) :
    V + t % 4294967296 * pB (i + j) + t / 4294967296 * pB (i + (j + 1)) = W + z * pB (i + j) + x * (N % pB (j + 1)) * pB i := by
  have h1 := Nat.div_add_mod t 4294967296
  have h2 := congrArg (· * pB (i + j)) h1
  have h3 := congrArg (· * pB (i + j)) ht
  simp only [Nat.add_mul] at h2 h3
  rw [show i + (j + 1) = i + j + 1 by omega, pB_succ, mod_pB_succ, hy, ← Nat.mul_assoc, Nat.mul_comm (t / _), Nat.mul_add, Nat.add_mul]
  have e : x * (y * pB j) * pB i = x * y * pB (i + j) := by
    rw [pB_add]; generalize pB i = a; generalize pB j = b
    simp only [Nat.mul_comm, Nat.mul_left_comm]
  rw [e]
  omega
theorem mul_carry {x y z c t : Nat} (hx : x < 4294967296) (hy : y < 4294967296) (hz : z < 4294967296) (hc : c < 4294967296) (ht : c + (x * y + z) = t) : t < 18446744073709551616 ∧ t / 4294967296 < 4294967296 ∧ x * y < 18446744073709551616 ∧ x * y + z < 18446744073709551616 := by
  have h1 : x * y ≤ 4294967295 * 4294967295 := Nat.mul_le_mul (by omega) (by omega)
  omega
/-- One step of the outer loop. -/
theorem mul_outer {V W M N i c l : Nat} (hN : len N = l) (hW : W = M % pB i * N) (hv : V + c * pB (i + l) = W + dg M i * (N % pB l) * pB i) : V + c * pB (i + l) = M % pB (i + 1) * N := by
  rw [hv, hW, Nat.mod_eq_of_lt (a := N) (lt_pB (by omega)), mod_pB_succ, Nat.add_mul]
  congr 1
  generalize dg M i = a; generalize pB i = b
  simp only [Nat.mul_comm, Nat.mul_left_comm]
theorem wrap_u64_nat {n : Nat} (h : n < 18446744073709551616) : IntKind.u64.wrap (n : Int) = (n : Int) := by
  show (n : Int) % 18446744073709551616 = n; omega

set_option maxRecDepth 100000 in
set_option maxHeartbeats 1000000 in
theorem product_any (A B : Option Addr) (m n ca cb : Nat) (w : World) (ha : Rd w A (len m) (dg m)) (hb' : Rd w B (len n) (dg n)) (hL : len m ≤ 1073741824) (hM : len n ≤ 1073741824) :
    Calls Tryz.prog 182 #[.slice A (len m) ca, .slice B (len n) cb] w (NatRes (m * n) w) := by
  have HA := Lib.hid ha; clear ha
  have HB := Lib.hid hb'; clear hb'
  obtain ⟨L, hLe⟩ : ∃ L, len m = L := ⟨_, rfl⟩
  obtain ⟨l, hle⟩ : ∃ l, len n = l := ⟨_, rfl⟩
  rw [hLe] at hL HA ⊢
  rw [hle] at hM HB ⊢
  have HLe := Lib.hid hLe; clear hLe
  have Hle := Lib.hid hle; clear hle
  obtain ⟨w1, hrun, hrow, hx⟩ := run_make_row w (L + l) (by omega)
  rw [show ((L + l : Nat) : Int) = (L : Int) + (l : Int) by omega] at hrun
  have hR0 := Lib.hid hrow
  have hX0 := Lib.hid hx
  clear hrow hx
  go_enter Tryz.func182, Tryz.ntmps182
  go_wp2
  clear hrun
  go_loopw [19] (fun si wr => ∃ (i : Nat) (F : Nat → Nat), i ≤ L ∧ si = I i ∧ Hid (Row wr w.heap.size w.heap.size (L + l) (L + l) F) ∧ Hid (Ext w wr) ∧ Hid (∀ j, i + l ≤ j → F j = 0) ∧ Hid (∀ j, j < L + l → F j < 4294967296) ∧ Hid (valN F (i + l) = m % pB i * n)) (fun si _ => L - (intOf si).toNat)
  case atStart => exact ⟨0, _, Nat.zero_le _, rfl, hR0, hX0, (fun _ _ => rfl), (fun _ _ => by show (0:Nat) < _; decide), by show _ = _; rw [valN_zeros (f := fun _ => 0) (t := 0) (Nat.zero_le _) (fun _ _ _ => rfl)]; simp [valN, pB_zero, Nat.mod_one]⟩
  case round =>
    clear hR0 hX0
    obtain ⟨i, F, hi, rfl, hR, hX, hZ, hB, hv⟩ := hrel
    by_cases hlt : i < L
    · obtain ⟨b2, o2, rfl, hb2, c2⟩ := (HA.out.ext hX.out).at_ hlt
      have hxl := dg_lt m i
      obtain ⟨x, hxe⟩ : ∃ x, dg m i = x := ⟨_, rfl⟩
      rw [hxe] at c2 hxl
      have HX := Lib.hid hxe; clear hxe
      go_wp2
      clear c2 hb2
      go_loopw [8, 26] (fun sc sj wq => ∃ (j c : Nat) (G : Nat → Nat), j ≤ l ∧ sj = I j ∧ sc = U8 c ∧ c < 4294967296 ∧ Hid (Row wq w.heap.size w.heap.size (L + l) (L + l) G) ∧ Hid (Ext w wq) ∧ Hid (∀ k, i + j ≤ k → G k = F k) ∧ Hid (∀ j, j < L + l → G j < 4294967296) ∧ Hid (valN G (i + j) + c * pB (i + j) = valN F (i + j) + x * (n % pB j) * pB i)) (fun _ sj _ => l - (intOf sj).toNat)
      case atStart => exact ⟨0, 0, F, Nat.zero_le _, rfl, rfl, by omega, hR, hX, (fun _ _ => rfl), hB.out, by show _ = _; simp [pB_zero, Nat.mod_one]⟩
      case round =>
        clear hR hX hB
        obtain ⟨j, c, G, hj, rfl, rfl, hc, hR, hX, hK, hB, hw⟩ := hrel
        by_cases hlt2 : j < l
        · obtain ⟨b3, o3, rfl, hb3, c3⟩ := (HB.out.ext hX.out).at_ hlt2
          have c1 := hR.out.cell (k := i + j) (by omega)
          have f1 := hR.out.frozen (i + j)
          have hzl := hB.out (i + j) (by omega)
          have hyl := dg_lt n j
          obtain ⟨z, hze⟩ : ∃ z, G (i + j) = z := ⟨_, rfl⟩
          have hzF : Hid (F (i + j) = z) := by rw [← hze]; exact (hK.out _ (Nat.le_refl _)).symm
          rw [hze] at c1 hzl
          clear hze
          obtain ⟨y, hye⟩ : ∃ y, dg n j = y := ⟨_, rfl⟩
          rw [hye] at c3 hyl
          obtain ⟨t, ht⟩ : ∃ t, c + (x * y + z) = t := ⟨_, rfl⟩
          obtain ⟨t1, t2, t3, t4⟩ := mul_carry hxl hyl hzl hc ht
          have hs := mul_step hw.out hye ht
          obtain ⟨p, hp⟩ : ∃ p, x * y = p := ⟨_, rfl⟩
          rw [hp] at ht t3 t4
          have e1 : (x : Int) * (y : Int) = (p : Int) := by rw [← hp]; simp
          have e2 : (c : Int) + ((p : Int) + (z : Int)) = (t : Int) := by omega
          obtain ⟨lo, hlo⟩ : ∃ lo, t % 4294967296 = lo := ⟨_, rfl⟩
          obtain ⟨hi', hhi⟩ : ∃ hi', t / 4294967296 = hi' := ⟨_, rfl⟩
          have e3 : (t : Int) % 4294967296 = (lo : Int) := by omega
          have e4 : (t : Int) / 4294967296 = (hi' : Int) := by omega
          rw [hlo, hhi] at hs
          rw [hhi] at t2
          have hlob : lo < 4294967296 := by omega
          have HS := Lib.hid hs
          clear hs hp ht hlo hhi hw hye
          go_wp2
          go_roundw
          case rel =>
            refine ⟨j + 1, hi', upd G (i + j) lo, by omega, by go_num, rfl, t2, Row.set hR.out _ _, Ext.set hX.out (Nat.le_refl _) _, ?_, upd_lt hB.out hlob, ?_⟩
            · exact fun k hk => by rw [upd_ne _ (by omega)]; exact hK.out k (by omega)
            · show _ = _
              rw [show i + (j + 1) = i + j + 1 by omega, valN_upd, valN, hzF.out]
              exact HS.out
          case measure => simp [intOf]; omega
        · obtain rfl : j = l := by omega
          have c1 := hR.out.cell (k := i + j) (by omega)
          have f1 := hR.out.frozen (i + j)
          have ho := Lib.hid (mul_outer (c := c) Hle.out hv.out (by rw [HX.out]; exact hw.out))
          clear hw
          have e3 : (c : Int) % 4294967296 = (c : Int) := by omega
          go_wp2
          go_roundw
          case rel =>
            refine ⟨i + 1, upd G (i + j) c, by omega, by go_num, Row.set hR.out _ _, Ext.set hX.out (Nat.le_refl _) _, ?_, upd_lt hB.out hc, ?_⟩
            · exact fun k hk => by rw [upd_ne _ (by omega), hK.out k (by omega)]; exact hZ.out k (by omega)
            · show _ = _
              rw [show i + 1 + j = i + j + 1 by omega, valN_upd]
              exact ho.out
          case measure => simp [intOf]; omega
    · obtain rfl : i = L := by omega
      have hE : Hid (valN F (i + l) = m * n) := by
        show _ = _
        rw [hv.out, Nat.mod_eq_of_lt (lt_pB (by rw [HLe.out]; omega))]
      clear hv
      go_wp2_with (go_at_call 123; refine (trim_any _ _ _ F _ hR.out.rd hB.out hR.out.cap.1 hR.out.cap.2).mono ?_; rintro e w4 ⟨rfl, rfl⟩)
      go_ret
      exact natRes_of hR.out hB.out hE.out rfl hX.out
end
end

/-! ### Mnati -/
section
/-! ### Nati -/
section
open Go.RowKit

/-- The library's table of trailing zeros lies as its text lays it. -/
def Tabs (w : World) : Prop := TabAt 1 Lib.deBruijn32tab w
theorem Tabs.ext {w w' : World} (h : Tabs w) (e : Ext w w') : Tabs w' := fun j hj => by
  have h1 := h j hj
  exact (e.old.1 _ _ (World.block_lt_of_cell? w _ h1)).trans h1

set_option maxRecDepth 100000 in
set_option maxHeartbeats 1000000 in
theorem tz32_core (x k idx : Nat) (w : World) (hx0 : ((x : Int) == 0) = false)
    (key : bits BinOp.and IntKind.u32 (x : Int) (-(x : Int) % 4294967296) * 125613361 % 4294967296 / 134217728 = (idx : Int))
    (hi : idx < 32) (hk : k < 32) (hcell : w.cell? ⟨1, idx, none⟩ = some (.int .u8 k)) :
    Calls Tryz.prog 148 #[U4 x] w fun e w' => e = .returned (I k) ∧ w = w' := by
  go_enter Tryz.func148, Tryz.ntmps148
  go_wp2_with (simp only [key])
  go_ret
  exact ⟨rfl, rfl⟩
theorem tz32_any (x : Nat) (hx : x < 4294967296) (hx0 : x ≠ 0) (w : World) (hT : Tabs w) : Calls Tryz.prog 148 #[U4 x] w fun e w' => e = .returned (I (Lib.ctz 32 x)) ∧ w = w' := by
  obtain ⟨hlow, hk⟩ := Lib.lowest_bit 32 x hx0 hx
  obtain ⟨hi, htab⟩ := Lib.deBruijn32_at _ hk
  have hcell := hT _ hi
  rw [htab] at hcell
  exact tz32_core x _ _ w (by simp; omega) (tz32_key x _ hx hx0 hlow) hi hk hcell

def IsTz (m T : Nat) : Prop := (∀ i, i < T → m / 2 ^ i % 2 = 0) ∧ m / 2 ^ T % 2 = 1
theorem isTz_hv {m T k : Nat} (h : IsTz m T) : hv m k = min T k := by
  refine hv_of_bits (Nat.min_le_right _ _) (fun i hi => h.1 i (by omega)) (fun hk => ?_)
  rw [show min T k = T by omega]; exact h.2
theorem ctz_bits {x : Nat} (hx : x < 4294967296) (h0 : x ≠ 0) : (∀ i, i < Lib.ctz 32 x → x / 2 ^ i % 2 = 0) ∧ x / 2 ^ Lib.ctz 32 x % 2 = 1 ∧ Lib.ctz 32 x < 32 := by
  obtain ⟨m, hm, hk⟩ := Lib.ctzFrom_spec 32 x (by omega) hx
  have e : Lib.ctz 32 x = Lib.ctzFrom 32 x := by simp [Lib.ctz, h0]
  rw [e]
  generalize Lib.ctzFrom 32 x = k at *
  refine ⟨fun i hi => ?_, ?_, hk⟩
  · obtain ⟨j, rfl⟩ : ∃ j, k = i + (j + 1) := ⟨k - i - 1, by omega⟩
    rw [hm, Nat.pow_add, Nat.mul_assoc, Nat.mul_div_cancel_left _ (p2_pos i), Nat.pow_succ, Nat.mul_comm (2 ^ j), Nat.mul_assoc]
    omega
  · rw [hm, Nat.mul_div_cancel_left _ (p2_pos k)]; omega
theorem isTz_of {m i x : Nat} (h0 : ∀ j, j < i → dg m j = 0) (hx : dg m i = x) (hne : x ≠ 0) : IsTz m (i * 32 + Lib.ctz 32 x) := by
  obtain ⟨h1, h2, h3⟩ := ctz_bits (x := x) (by rw [← hx]; exact dg_lt _ _) hne
  generalize Lib.ctz 32 x = k at *
  constructor
  · intro j hj
    rw [← bit_dg]
    rcases Nat.lt_or_ge (j / 32) i with h | h
    · rw [h0 _ h]; simp
    · have : j / 32 = i := by omega
      rw [this, hx]; exact h1 _ (by omega)
  · rw [← bit_dg, show (i * 32 + k) / 32 = i by omega, hx, show (i * 32 + k) % 32 = k by omega]; exact h2

def TzRes (m : Nat) (w : World) (e : Ending) (w' : World) : Prop := ∃ T : Nat, e = .returned (I T) ∧ IsTz m T ∧ T < len m * 32 ∧ w = w'
set_option maxRecDepth 100000 in
set_option maxHeartbeats 1000000 in
theorem trailingZeros_any (A : Option Addr) (m ca : Nat) (w : World) (hT : Tabs w) (ha : Rd w A (len m) (dg m)) (hm : m ≠ 0) (hL : len m ≤ 1073741824) :
    Calls Tryz.prog 122 #[.slice A (len m) ca] w (TzRes m w) := by
  have HA := Lib.hid ha; clear ha
  have HT := Lib.hid hT; clear hT
  have htop := Lib.hid (dg_top hm)
  have hpos : 0 < len m := by have := len_pos hm; omega
  clear hm
  obtain ⟨L, hLe⟩ : ∃ L, len m = L := ⟨_, rfl⟩
  rw [hLe] at hL HA hpos ⊢
  have HLe := Lib.hid hLe; clear hLe
  go_enter Tryz.func122, Tryz.ntmps122
  go_wp2
  go_loop [3] (fun s => ∃ i : Nat, i < L ∧ s = I i ∧ Hid (∀ j, j < i → dg m j = 0)) (fun s => L - (intOf s).toNat)
  case atStart => exact ⟨0, hpos, rfl, fun j hj => by omega⟩
  case round =>
    obtain ⟨i, hi, rfl, hz⟩ := hrel
    obtain ⟨b2, o2, rfl, hb2, c2⟩ := HA.out.at_ hi
    by_cases h0 : dg m i = 0
    · have hi1 : i + 1 < L := by
        rcases Nat.lt_or_ge (i + 1) L with h | h
        · exact h
        · exfalso; have := htop.out; rw [HLe.out, show L - 1 = i by omega] at this; exact this h0
      have hz' : Hid (∀ j, j < i + 1 → dg m j = 0) := fun j hj => by
        by_cases e : j = i
        · subst e; exact h0
        · exact hz.out j (by omega)
      rw [h0] at c2
      clear h0 hz
      go_wp2
      go_round
      case rel => exact ⟨i + 1, hi1, by go_num, hz'⟩
      case measure => simp [intOf]; omega
    · have hxl := dg_lt m i
      obtain ⟨x, hxe⟩ : ∃ x, dg m i = x := ⟨_, rfl⟩
      have hzz := Lib.hid (isTz_of hz.out hxe (by rw [← hxe]; exact h0))
      have h1 : ((x : Int) == 0) = false := by simp; omega
      have h2 : x ≠ 0 := by omega
      have hcz := (ctz_bits (x := x) (by omega) h2).2.2
      rw [hxe] at c2 hxl
      obtain ⟨k, hk⟩ : ∃ k, Lib.ctz 32 x = k := ⟨_, rfl⟩
      rw [hk] at hzz hcz
      have HK := Lib.hid hk
      have H2 := Lib.hid h2
      clear hxe h0 hz hk h2
      go_wp2_with (go_at_call 148; refine (tz32_any x hxl H2.out _ HT.out).mono ?_; rintro e w' ⟨rfl, rfl⟩; rw [HK.out])
      go_ret
      exact ⟨i * 32 + k, by rfl, hzz.out, by have := HLe.out; omega, rfl⟩
end

/-! ### Natj -/
section
open Go.RowKit

theorem tk_step {c t x y lo lf hi : Nat} (hc : c ≤ 4294967296) (ht : t ≤ 4294967295) (hx : x < 4294967296) (hy : y < 4294967296) (hlo : (c + t * x) % 4294967296 = lo) (hhi : (c + t * x) / 4294967296 = hi)
    (hlf : ((y : Int) - lo) % 18446744073709551616 = (lf : Int)) :
    lf % 4294967296 + (c + t * x) = y + (hi + lf / 9223372036854775808) * 4294967296 ∧ hi + lf / 9223372036854775808 ≤ 4294967296 ∧ c + t * x < 18446744073709551616 ∧ t * x < 18446744073709551616 := by
  have h1 : t * x ≤ 4294967295 * 4294967295 := Nat.mul_le_mul ht (by omega)
  generalize t * x = p at *
  omega
theorem tk_est {F f : Nat → Nat} {L q0 fst : Nat} (hF : ∀ i, i < L + 2 → F i < 4294967296) (hM : F (L + 1) * 4294967296 + F L = fst) (ht : 0 < f L) (hQ : q0 * valN f (L + 1) ≤ valN F (L + 2)) : q0 ≤ fst / f L := by
  refine quo_le L (M := valN F (L + 2)) (N := valN f (L + 1)) ?_ ?_ ht q0 hQ
  · have hb := valN_lt (f := F) (k := L) (fun i hi => hF i (by omega))
    rw [valN, valN, ← hM, pB_succ, Nat.add_mul, Nat.add_mul, ← Nat.mul_assoc]
    omega
  · rw [valN]; omega
theorem tk_neg {V M N t P : Nat} {top : Int} (hV : V < P) (h : (V : Int) + top * P = (M : Int) - (t : Int) * N) (ht : top < 0) : M < t * N := by
  have h1 : top * P ≤ -1 * P := Int.mul_le_mul_of_nonneg_right (by omega) (by omega)
  have h2 : ((t * N : Nat) : Int) = (t : Int) * N := by simp
  omega
theorem tk_pos {V M N t P : Nat} {top : Int} (hN : N < P) (hNP : 0 < N) (h : (V : Int) + top * P = (M : Int) - (t : Int) * N) (ht : 0 ≤ top) (hQ : M / N ≤ t) : t = M / N ∧ top = 0 ∧ V = M % N := by
  have h0 : 0 ≤ top * P := Int.mul_nonneg ht (by omega)
  have h2 : ((t * N : Nat) : Int) = (t : Int) * N := by simp
  have h3 : t * N ≤ M := by omega
  have h4 : t ≤ M / N := (Nat.le_div_iff_mul_le hNP).2 h3
  have h5 : t = M / N := by omega
  have h6 := Nat.div_add_mod M N
  have h7 := Nat.mod_lt M hNP
  rw [← h5, Nat.mul_comm] at h6
  have h8 : top = 0 := by
    rcases Int.lt_or_le 0 top with h | h
    · have : 1 * (P : Int) ≤ top * P := Int.mul_le_mul_of_nonneg_right (by omega) (by omega)
      omega
    · omega
  subst h8
  exact ⟨h5, rfl, by omega⟩

def TakePost (w : World) (base g N C o L : Nat) (F f : Nat → Nat) (e : Ending) (w' : World) : Prop :=
  ∃ F' : Nat → Nat, e = .returned (U4 (valN (fun i => F (o + i)) (L + 1) / valN f L)) ∧ Row w' base g N C F' ∧ w.grownBy w' (some g) ∧ (∀ i, i < N → F' i < 4294967296) ∧ (∀ i, i < o ∨ o + (L + 1) ≤ i → F' i = F i) ∧ F' (o + L) = 0 ∧
    valN (fun i => F' (o + i)) L = valN (fun i => F (o + i)) (L + 1) % valN f L

end
end

end Go.Proofs.YtkocmdpfknoiaaaGreatDoor
