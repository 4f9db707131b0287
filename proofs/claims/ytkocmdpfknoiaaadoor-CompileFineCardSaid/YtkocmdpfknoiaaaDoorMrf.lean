/- The reference's functions on absolute values, part 1: trim, less. -/
import Derived.Test.YtkocmdpfknoiaaaDoorMmem
import Derived.Test.YtkocmdpfknoiaaaDoorMnat
import Derived.Test.YtkocmdpfknoiaaaDoorMdz
namespace Go.Proofs.YtkocmdpfknoiaaaDoor

/-! ### Mref -/
section
/-! ### Ref -/
section
open Go.RowKit

/-- What a reference function hands back: the digits of x, somewhere. -/
def RdRes (x : Nat) (w : World) (e : Ending) (w' : World) : Prop := ∃ A c, e = .returned (.slice A (len x) c) ∧ Rd w' A (len x) (dg x) ∧ SlOk A (len x) c ∧ Ext w w'

set_option maxHeartbeats 400000 in
theorem rtrim_any (A : Option Addr) (n c : Nat) (f : Nat → Nat) (w : World) (hr : Rd w A n f) (hb : ∀ i, i < n → f i < 4294967296) (hc : n ≤ c) (hm : c ≤ maxLen) :
    Calls Tryd.prog 49 #[.slice A n c] w fun e w' => e = .returned (.slice A (len (valN f n)) c) ∧ w = w' := by
  unfold maxLen at hm
  have HB := Lib.hid hb; clear hb
  have HR := Lib.hid hr; clear hr
  go_enter Tryd.func49, Tryd.ntmps49
  go_wp2
  go_loop [3] (fun s => ∃ k : Nat, k ≤ n ∧ Hid (∀ i, k ≤ i → i < n → f i = 0) ∧ s = I k) (fun s => (intOf s).toNat)
  case atStart => exact ⟨n, Nat.le_refl _, (fun i h1 h2 => by omega), rfl⟩
  case round =>
    obtain ⟨k, hk, hz, rfl⟩ := hrel
    cases k with
    | zero =>
      have hl := Lib.hid (len_valN HB.out hk hz.out (.inl rfl))
      go_wp2
      go_ret
      exact ⟨by rw [hl.out]; rfl, rfl⟩
    | succ j =>
      obtain ⟨b, o, rfl, hbw, hcell⟩ := HR.out.at_ (k := j) (by omega)
      by_cases h0 : f j = 0
      · have hz' : Hid (∀ i, j ≤ i → i < n → f i = 0) := fun i h1 h2 => by
          by_cases e : i = j
          · subst e; exact h0
          · exact hz.out i (by omega) h2
        rw [h0] at hcell
        clear h0 hz
        go_wp2
        go_round
        case rel => exact ⟨j, by omega, hz', by go_num⟩
        case measure => simp [intOf]
      · have hl := Lib.hid (len_valN HB.out hk hz.out (.inr (by simpa using h0)))
        have h1 : ((f j : Int) == 0) = false := by simp; omega
        clear h0 hz
        go_wp2
        go_ret
        exact ⟨by rw [hl.out]; rfl, rfl⟩

set_option maxHeartbeats 400000 in
theorem rless_any (A B : Option Addr) (m n ca cb : Nat) (w : World) (ha : Rd w A (len m) (dg m)) (hb' : Rd w B (len n) (dg n)) (ha1 : len m ≤ 1073741824) :
    Calls Tryd.prog 50 #[.slice A (len m) ca, .slice B (len n) cb] w fun e w' => e = .returned (.bool (decide (m < n))) ∧ Ext w w' := by
  have HA := Lib.hid ha; clear ha
  have HB := Lib.hid hb'; clear hb'
  by_cases hl : len m = len n
  · have h0 := Lib.hid (cmp_start hl)
    obtain ⟨L, hL⟩ : ∃ L, len m = L := ⟨_, rfl⟩
    rw [hL] at hl ha1 h0
    rw [hL, ← hl]
    rw [hL] at HA
    rw [← hl] at HB
    clear hL hl
    have H0 : Hid (m / pB L = n / pB L) := h0
    clear h0
    go_enter Tryd.func50, Tryd.ntmps50
    go_wp2
    go_loopw [5] (fun s wr => Ext w wr ∧ (s = I (-1) ∧ Hid (m / pB 0 = n / pB 0) ∨ ∃ j : Nat, j < L ∧ s = I j ∧ Hid (m / pB (j + 1) = n / pB (j + 1)))) (fun s _ => (intOf s + 1).toNat)
    case atStart =>
      refine ⟨Ext.refl _, ?_⟩
      cases L with
      | zero => exact .inl ⟨rfl, H0⟩
      | succ l => exact .inr ⟨l, by omega, by go_num, H0⟩
    case round =>
      clear H0
      obtain ⟨hb, ⟨rfl, hz⟩ | ⟨j, hj, rfl, hz⟩⟩ := hrel
      · have HC : Hid (decide (m < n) = false) := by have := cmp_end hz.out; show _ = _; simp; omega
        go_wp2
        go_ret
        exact ⟨by rw [HC.out]; rfl, hb⟩
      · obtain ⟨b1, o1, rfl, hb1, c1⟩ := HA.out.at_ hj
        obtain ⟨b2, o2, rfl, hb2, c2⟩ := HB.out.at_ hj
        obtain ⟨hc, hf⟩ := hb.old
        have hi1 : (0 : Int) ≤ (j : Int) := by omega
        have hi2 : (j : Int) < (L : Int) := by omega
        by_cases e : dg m j = dg n j
        · have hz' := Lib.hid (cmp_step hz.out e)
          rw [e] at c1
          clear e hz
          go_wp2
          go_quiet (fail)
          go_wp2
          go_roundw
          case rel =>
            refine ⟨hb.trans (Ext.drewN _ _), ?_⟩
            cases j with
            | zero => exact .inl ⟨rfl, hz'⟩
            | succ l => exact .inr ⟨l, by omega, by go_num, hz'⟩
          case measure => simp [intOf]
        · have e1 : ((dg m j : Int) != (dg n j : Int)) = true := by simp; omega
          rcases Nat.lt_or_gt_of_ne e with e2 | e2
          · have HC : Hid (decide (m < n) = decide (dg m j < dg n j)) := by have := cmp_dg hz.out e2; show _ = _; rw [decide_eq_true this, decide_eq_true e2]
            clear e hz e2
            go_wp2
            go_quiet (fail)
            go_wp2
            go_quiet (fail)
            go_wp2
            go_ret
            exact ⟨by rw [HC.out]; rfl, (hb.trans (Ext.drewN _ _)).trans (Ext.drewN _ _)⟩
          · have HC : Hid (decide (m < n) = decide (dg m j < dg n j)) := by have := cmp_dg hz.out.symm e2; show _ = _; rw [decide_eq_false (by omega), decide_eq_false (by omega)]
            clear e hz e2
            go_wp2
            go_quiet (fail)
            go_wp2
            go_quiet (fail)
            go_wp2
            go_ret
            exact ⟨by rw [HC.out]; rfl, (hb.trans (Ext.drewN _ _)).trans (Ext.drewN _ _)⟩
  · have h1 : ((len m : Int) != (len n : Int)) = true := by simp; omega
    have HC : Hid (decide (m < n) = decide (len m < len n)) := by
      show _ = _
      rcases Nat.lt_or_gt_of_ne hl with h | h
      · rw [decide_eq_true h, decide_eq_true (cmp_len h)]
      · have := cmp_len h
        rw [decide_eq_false (by omega), decide_eq_false (by omega)]
    clear hl
    go_enter Tryd.func50, Tryd.ntmps50
    go_wp2
    go_ret
    exact ⟨by rw [HC.out]; rfl, Ext.refl _⟩
end

/-! ### Refb -/
section
open Go.RowKit

set_option maxRecDepth 100000 in
set_option maxHeartbeats 1000000 in
theorem rplus_any (A B : Option Addr) (m n ca cb : Nat) (w : World) (ha : Rd w A (len m) (dg m)) (hb' : Rd w B (len n) (dg n)) (hL : len m ≤ 1073741824) (hM : len n ≤ 1073741824) :
    Calls Tryd.prog 33 #[.slice A (len m) ca, .slice B (len n) cb] w (NatRes (m + n) w) := by
  have HA := Lib.hid ha; clear ha
  have HB := Lib.hid hb'; clear hb'
  obtain ⟨la, hla⟩ : ∃ l, len m = l := ⟨_, rfl⟩
  obtain ⟨lb, hlb⟩ : ∃ l, len n = l := ⟨_, rfl⟩
  obtain ⟨L, hLe⟩ : ∃ L, max la lb = L := ⟨_, rfl⟩
  rw [hla] at hL HA ⊢
  rw [hlb] at hM HB ⊢
  have Hle := Lib.hid hla; clear hla
  have Hle2 := Lib.hid hlb; clear hlb
  have em : (if (la : Int) < (lb : Int) then (lb : Int) else (la : Int)) = (L : Int) := by split <;> omega
  have hLa : la ≤ L := by omega
  have hLb : lb ≤ L := by omega
  have hL3 : L ≤ 1073741824 := by omega
  have hLo : L = la ∨ L = lb := by omega
  clear hLe
  go_enter Tryd.func33, Tryd.ntmps33
  go_wp2
  go_loopw [5, 6, 7] (fun so sc si wr => ∃ (k cy : Nat) (Ao : Option Addr) (co : Nat) (F : Nat → Nat), k ≤ L ∧ si = I k ∧ sc = U8 cy ∧ so = .slice Ao k co ∧ cy ≤ 1 ∧ Hid (On wr w.heap.size Ao k co F) ∧ Hid (Ext w wr) ∧ Hid (∀ i, i < k → F i < 4294967296) ∧ Hid (valN F k + cy * pB k = valN (dg m) k + valN (dg n) k)) (fun _ _ si _ => L - (intOf si).toNat)
  case atStart => exact ⟨0, 0, none, 0, fun _ => 0, Nat.zero_le _, rfl, rfl, rfl, by omega, On.nil _ _ _, Ext.refl _, (fun i hi => by omega), by show _ = _; simp [valN]⟩
  case round =>
    obtain ⟨k, cy, Ao, co, F, hk, rfl, rfl, rfl, hcy, hO, hX, hB, hv⟩ := hrel
    by_cases hlt : k < L
    · have hxl := dg_lt m k
      have hyl := dg_lt n k
      obtain ⟨x, hxe⟩ : ∃ x, dg m k = x := ⟨_, rfl⟩
      obtain ⟨y, hye⟩ : ∃ y, dg n k = y := ⟨_, rfl⟩
      rw [hxe] at hxl
      rw [hye] at hyl
      by_cases hp : k < la
      · by_cases hq : k < lb
        · have hpq := hp
          clear hpq
          obtain ⟨t, ht⟩ : ∃ t, cy + x + y = t := ⟨_, rfl⟩
          obtain ⟨b2, o2, rfl, hb2, c2⟩ := (HA.out.ext hX.out).at_ hp
          rw [hxe] at c2
          obtain ⟨b3, o3, rfl, hb3, c3⟩ := (HB.out.ext hX.out).at_ hq
          rw [hye] at c3
          obtain ⟨lo, hlo⟩ : ∃ lo, t % 4294967296 = lo := ⟨_, rfl⟩
          obtain ⟨hi, hhi⟩ : ∃ hi, t / 4294967296 = hi := ⟨_, rfl⟩
          have hs := Lib.hid (add_step (s := lo) (x := x) (y := y) (c := cy) (c' := hi) hv.out (by omega))
          have e3 : (t : Int) % 4294967296 = (lo : Int) := by omega
          have e4 : (t : Int) / 4294967296 = (hi : Int) := by omega
          have hi1 : hi ≤ 1 := by omega
          have hlob : lo < 4294967296 := by omega
          have ht2 : t < 12884901888 := by omega
          have e2 : (cy : Int) + (x : Int) + (y : Int) = (t : Int) := by omega
          have HXE := Lib.hid hxe; have HYE := Lib.hid hye
          clear hlo hhi ht hxe hye hxl hyl
          go_wp2_with (at_builtin; refine app1 rfl _ _ rfl w.heap.size Ao k co F (by rfl) (hO.out.ext (Ext.alloc _ _)) _ 1 lo (by rfl) (by go_simp) (by omega) (by have := hX.out.size; simp; omega) ?_; intro g cap w2 hrow hg hat hlt2; have HR := Lib.hid hrow; have HX2 : Hid (Ext w w2) := ext_app (hX.out.trans (Ext.alloc _ _)) (hO.out.ext (Ext.alloc _ _)) hg; clear hrow hg hat hlt2)
          go_roundw
          case rel =>
            refine ⟨k + 1, hi, some ⟨g, 0, none⟩, cap, upd F k lo, by omega, by go_num, rfl, rfl, hi1, HR.out.on, HX2, ?_, ?_⟩
            · exact fun i hi => by
                by_cases e : i = k
                · subst e; rw [upd_same]; exact hlob
                · rw [upd_ne _ e]; exact hB.out i (by omega)
            · show _ = _
              rw [pB_succ, valN_upd, valN, valN, HXE.out, HYE.out]
              have := hs.out
              omega
          case measure => simp [intOf]; omega

        · have hpq := hp
          clear hpq
          obtain ⟨t, ht⟩ : ∃ t, cy + x + y = t := ⟨_, rfl⟩
          obtain ⟨b2, o2, rfl, hb2, c2⟩ := (HA.out.ext hX.out).at_ hp
          rw [hxe] at c2
          have hy0 : y = 0 := by rw [← hye]; exact dg_high (by rw [Hle2.out]; omega)
          obtain ⟨lo, hlo⟩ : ∃ lo, t % 4294967296 = lo := ⟨_, rfl⟩
          obtain ⟨hi, hhi⟩ : ∃ hi, t / 4294967296 = hi := ⟨_, rfl⟩
          have hs := Lib.hid (add_step (s := lo) (x := x) (y := y) (c := cy) (c' := hi) hv.out (by omega))
          have e3 : (t : Int) % 4294967296 = (lo : Int) := by omega
          have e4 : (t : Int) / 4294967296 = (hi : Int) := by omega
          have hi1 : hi ≤ 1 := by omega
          have hlob : lo < 4294967296 := by omega
          have ht2 : t < 12884901888 := by omega
          have e2 : (cy : Int) + (x : Int) = (t : Int) := by omega
          have HXE := Lib.hid hxe; have HYE := Lib.hid hye
          clear hlo hhi ht hxe hye hxl hyl
          go_wp2_with (at_builtin; refine app1 rfl _ _ rfl w.heap.size Ao k co F (by rfl) (hO.out.ext (Ext.alloc _ _)) _ 1 lo (by rfl) (by go_simp) (by omega) (by have := hX.out.size; simp; omega) ?_; intro g cap w2 hrow hg hat hlt2; have HR := Lib.hid hrow; have HX2 : Hid (Ext w w2) := ext_app (hX.out.trans (Ext.alloc _ _)) (hO.out.ext (Ext.alloc _ _)) hg; clear hrow hg hat hlt2)
          go_roundw
          case rel =>
            refine ⟨k + 1, hi, some ⟨g, 0, none⟩, cap, upd F k lo, by omega, by go_num, rfl, rfl, hi1, HR.out.on, HX2, ?_, ?_⟩
            · exact fun i hi => by
                by_cases e : i = k
                · subst e; rw [upd_same]; exact hlob
                · rw [upd_ne _ e]; exact hB.out i (by omega)
            · show _ = _
              rw [pB_succ, valN_upd, valN, valN, HXE.out, HYE.out]
              have := hs.out
              omega
          case measure => simp [intOf]; omega

      · by_cases hq : k < lb
        · have hpq := hq
          clear hpq
          obtain ⟨t, ht⟩ : ∃ t, cy + x + y = t := ⟨_, rfl⟩
          have hx0 : x = 0 := by rw [← hxe]; exact dg_high (by rw [Hle.out]; omega)
          obtain ⟨b3, o3, rfl, hb3, c3⟩ := (HB.out.ext hX.out).at_ hq
          rw [hye] at c3
          obtain ⟨lo, hlo⟩ : ∃ lo, t % 4294967296 = lo := ⟨_, rfl⟩
          obtain ⟨hi, hhi⟩ : ∃ hi, t / 4294967296 = hi := ⟨_, rfl⟩
          have hs := Lib.hid (add_step (s := lo) (x := x) (y := y) (c := cy) (c' := hi) hv.out (by omega))
          have e3 : (t : Int) % 4294967296 = (lo : Int) := by omega
          have e4 : (t : Int) / 4294967296 = (hi : Int) := by omega
          have hi1 : hi ≤ 1 := by omega
          have hlob : lo < 4294967296 := by omega
          have ht2 : t < 12884901888 := by omega
          have e2 : (cy : Int) + (y : Int) = (t : Int) := by omega
          have HXE := Lib.hid hxe; have HYE := Lib.hid hye
          clear hlo hhi ht hxe hye hxl hyl
          go_wp2_with (at_builtin; refine app1 rfl _ _ rfl w.heap.size Ao k co F (by rfl) (hO.out.ext (Ext.alloc _ _)) _ 1 lo (by rfl) (by go_simp) (by omega) (by have := hX.out.size; simp; omega) ?_; intro g cap w2 hrow hg hat hlt2; have HR := Lib.hid hrow; have HX2 : Hid (Ext w w2) := ext_app (hX.out.trans (Ext.alloc _ _)) (hO.out.ext (Ext.alloc _ _)) hg; clear hrow hg hat hlt2)
          go_roundw
          case rel =>
            refine ⟨k + 1, hi, some ⟨g, 0, none⟩, cap, upd F k lo, by omega, by go_num, rfl, rfl, hi1, HR.out.on, HX2, ?_, ?_⟩
            · exact fun i hi => by
                by_cases e : i = k
                · subst e; rw [upd_same]; exact hlob
                · rw [upd_ne _ e]; exact hB.out i (by omega)
            · show _ = _
              rw [pB_succ, valN_upd, valN, valN, HXE.out, HYE.out]
              have := hs.out
              omega
          case measure => simp [intOf]; omega

        · exfalso; omega
    · obtain rfl : k = L := by omega
      have hE : Hid (valN (upd F k cy) (k + 1) = m + n) := by
        show _ = _
        have := hv.out
        rw [valN_upd, this, valN_dg_all (by rw [Hle.out]; omega), valN_dg_all (by rw [Hle2.out]; omega)]
      have hBB : Hid (∀ i, i < k + 1 → upd F k cy i < 4294967296) := fun i hi => by
        by_cases e : i = k
        · subst e; rw [upd_same]; omega
        · rw [upd_ne _ e]; exact hB.out i (by omega)
      have e3 : (cy : Int) % 4294967296 = (cy : Int) := by omega
      clear hv hB
      go_wp2_with (first
        | (at_builtin; refine app1 rfl _ _ rfl w.heap.size Ao k co F (by rfl) (hO.out.ext (Ext.alloc _ _)) _ 1 cy (by rfl) (by go_simp) (by omega) (by have := hX.out.size; simp; omega) ?_; intro g cap w2 hrow hg hat hlt2; have HR := Lib.hid hrow; have HX2 : Hid (Ext w w2) := ext_app (hX.out.trans (Ext.alloc _ _)) (hO.out.ext (Ext.alloc _ _)) hg; clear hrow hg hat hlt2)
        | (go_at_call 49; refine (rtrim_any _ _ _ _ _ HR.out.rd hBB.out HR.out.cap.1 HR.out.cap.2).mono ?_; rintro e w4 ⟨rfl, rfl⟩))
      all_goals
        go_ret
        exact natRes_of HR.out hBB.out hE.out rfl HX2.out
end

/-! ### Refc -/
section
open Go.RowKit

theorem natRes_on {w w' : World} {x n c : Nat} {A : Option Addr} {f : Nat → Nat} {e : Ending} (hO : On w' w.heap.size A n c f) (hb : ∀ i, i < n → f i < 4294967296) (hv : valN f n = x) (he : e = .returned (.slice A (len (valN f n)) c)) (hx : Ext w w') : NatRes x w e w' := by
  rcases hO.cases with ⟨rfl, rfl, rfl⟩ | ⟨g, rfl, hr⟩
  · subst hv
    refine ⟨none, 0, he, ?_, hx⟩
    rw [show valN f 0 = 0 from rfl, len_zero]
    exact On.nil _ _ _
  · exact natRes_of hr hb hv he hx
theorem minus_end {S m n b P : Nat} (h : S + n = m + b * P) (hS : S < P) (hmn : n ≤ m) (hb : b ≤ 1) : S = m - n := by
  rcases Nat.le_one_iff_eq_zero_or_eq_one.1 hb with rfl | rfl <;> omega

set_option maxRecDepth 100000 in
set_option maxHeartbeats 1000000 in
theorem rminus_any (A B : Option Addr) (m n ca cb : Nat) (w : World) (ha : Rd w A (len m) (dg m)) (hb' : Rd w B (len n) (dg n)) (hL : len m ≤ 1073741824) (hmn : n ≤ m) :
    Calls Tryd.prog 51 #[.slice A (len m) ca, .slice B (len n) cb] w (NatRes (m - n) w) := by
  have HA := Lib.hid ha; clear ha
  have HB := Lib.hid hb'; clear hb'
  have hlm := len_mono hmn
  have HMN := Lib.hid hmn; clear hmn
  obtain ⟨L, hla⟩ : ∃ l, len m = l := ⟨_, rfl⟩
  obtain ⟨lb, hlb⟩ : ∃ l, len n = l := ⟨_, rfl⟩
  rw [hla] at hL HA hlm ⊢
  rw [hlb] at HB hlm ⊢
  have Hle := Lib.hid hla; clear hla
  have Hle2 := Lib.hid hlb; clear hlb
  go_enter Tryd.func51, Tryd.ntmps51
  go_wp2
  go_loopw [5, 6, 11] (fun so sc si wr => ∃ (k bw : Nat) (Ao : Option Addr) (co : Nat) (F : Nat → Nat), k ≤ L ∧ si = I k ∧ sc = I bw ∧ so = .slice Ao k co ∧ bw ≤ 1 ∧ Hid (On wr w.heap.size Ao k co F) ∧ Hid (Ext w wr) ∧ Hid (∀ i, i < k → F i < 4294967296) ∧ Hid (valN F k + valN (dg n) k = valN (dg m) k + bw * pB k)) (fun _ _ si _ => L - (intOf si).toNat)
  case atStart => exact ⟨0, 0, none, 0, fun _ => 0, Nat.zero_le _, rfl, rfl, rfl, by omega, On.nil _ _ _, Ext.refl _, (fun i hi => by omega), by show _ = _; simp [valN]⟩
  case round =>
    obtain ⟨k, bw, Ao, co, F, hk, rfl, rfl, rfl, hbw, hO, hX, hB, hv⟩ := hrel
    by_cases hlt : k < L
    · have hxl := dg_lt m k
      have hyl := dg_lt n k
      obtain ⟨x, hxe⟩ : ∃ x, dg m k = x := ⟨_, rfl⟩
      obtain ⟨y, hye⟩ : ∃ y, dg n k = y := ⟨_, rfl⟩
      rw [hxe] at hxl
      rw [hye] at hyl
      obtain ⟨b2, o2, rfl, hb2, c2⟩ := (HA.out.ext hX.out).at_ hlt
      rw [hxe] at c2
      by_cases hneg : x < bw + y
      · obtain ⟨r, hr⟩ : ∃ r, r + y + bw = x + 1 * 4294967296 := ⟨x + 4294967296 - y - bw, by omega⟩
        have hrb : r < 4294967296 := by omega
        by_cases hq : k < lb
        · have hpq := hq
          clear hpq
          have hs := Lib.hid (sub_step (s := r) (x := x) (y := y) (c := bw) (c' := 1) hv.out (by omega))
          have HXE := Lib.hid hxe; have HYE := Lib.hid hye
          have e3 : (r : Int) % 4294967296 = (r : Int) := by omega
          clear hxe hye
          obtain ⟨b3, o3, rfl, hb3, c3⟩ := (HB.out.ext hX.out).at_ hq
          rw [HYE.out] at c3
          obtain ⟨t0, ht0⟩ : ∃ t0 : Int, (x : Int) - (bw : Int) = t0 := ⟨_, rfl⟩
          obtain ⟨t, ht⟩ : ∃ t : Int, t0 - (y : Int) = t := ⟨_, rfl⟩
          have t1 : -4294967297 ≤ t0 := by omega
          have t2 : t0 < 4294967296 := by omega
          have t3 : -8589934592 ≤ t := by omega
          have t4 : t < 4294967296 := by omega
          have t5 : t < 0 := by omega
          have t6 : t + 4294967296 = (r : Int) := by omega
          clear hr hyl hxl
          go_wp2_with (at_builtin; refine app1 rfl _ _ rfl w.heap.size Ao k co F (by rfl) (hO.out.ext (Ext.alloc _ _)) _ 1 r (by rfl) (by go_simp <;> omega) (by omega) (by have := hX.out.size; simp; omega) ?_; intro g cap w2 hrow hg hat hlt2; have HR := Lib.hid hrow; have HX2 : Hid (Ext w w2) := ext_app (hX.out.trans (Ext.alloc _ _)) (hO.out.ext (Ext.alloc _ _)) hg; clear hrow hg hat hlt2)
          go_roundw
          case rel =>
            refine ⟨k + 1, 1, some ⟨g, 0, none⟩, cap, upd F k r, by omega, by go_num, by go_num, rfl, by omega, HR.out.on, HX2, ?_, ?_⟩
            · exact fun i hi => by
                by_cases e : i = k
                · subst e; rw [upd_same]; exact hrb
                · rw [upd_ne _ e]; exact hB.out i (by omega)
            · show _ = _
              rw [pB_succ, valN_upd, valN, valN, HXE.out, HYE.out]
              have := hs.out
              omega
          case measure => simp [intOf]; omega

        · have hpq := hxl
          clear hpq
          have hs := Lib.hid (sub_step (s := r) (x := x) (y := y) (c := bw) (c' := 1) hv.out (by omega))
          have HXE := Lib.hid hxe; have HYE := Lib.hid hye
          have e3 : (r : Int) % 4294967296 = (r : Int) := by omega
          clear hxe hye
          have hy0 : y = 0 := by rw [← HYE.out]; exact dg_high (by rw [Hle2.out]; omega)
          subst hy0
          obtain ⟨t, ht⟩ : ∃ t : Int, (x : Int) - (bw : Int) = t := ⟨_, rfl⟩
          have t3 : -8589934592 ≤ t := by omega
          have t4 : t < 4294967296 := by omega
          have t5 : t < 0 := by omega
          have t6 : t + 4294967296 = (r : Int) := by omega
          clear hr hyl hxl
          go_wp2_with (at_builtin; refine app1 rfl _ _ rfl w.heap.size Ao k co F (by rfl) (hO.out.ext (Ext.alloc _ _)) _ 1 r (by rfl) (by go_simp <;> omega) (by omega) (by have := hX.out.size; simp; omega) ?_; intro g cap w2 hrow hg hat hlt2; have HR := Lib.hid hrow; have HX2 : Hid (Ext w w2) := ext_app (hX.out.trans (Ext.alloc _ _)) (hO.out.ext (Ext.alloc _ _)) hg; clear hrow hg hat hlt2)
          go_roundw
          case rel =>
            refine ⟨k + 1, 1, some ⟨g, 0, none⟩, cap, upd F k r, by omega, by go_num, by go_num, rfl, by omega, HR.out.on, HX2, ?_, ?_⟩
            · exact fun i hi => by
                by_cases e : i = k
                · subst e; rw [upd_same]; exact hrb
                · rw [upd_ne _ e]; exact hB.out i (by omega)
            · show _ = _
              rw [pB_succ, valN_upd, valN, valN, HXE.out, HYE.out]
              have := hs.out
              omega
          case measure => simp [intOf]; omega

      · obtain ⟨r, hr⟩ : ∃ r, r + y + bw = x + 0 * 4294967296 := ⟨x - y - bw, by omega⟩
        have hrb : r < 4294967296 := by omega
        by_cases hq : k < lb
        · have hpq := hq
          clear hpq
          have hs := Lib.hid (sub_step (s := r) (x := x) (y := y) (c := bw) (c' := 0) hv.out (by omega))
          have HXE := Lib.hid hxe; have HYE := Lib.hid hye
          have e3 : (r : Int) % 4294967296 = (r : Int) := by omega
          clear hxe hye
          obtain ⟨b3, o3, rfl, hb3, c3⟩ := (HB.out.ext hX.out).at_ hq
          rw [HYE.out] at c3
          obtain ⟨t0, ht0⟩ : ∃ t0 : Int, (x : Int) - (bw : Int) = t0 := ⟨_, rfl⟩
          obtain ⟨t, ht⟩ : ∃ t : Int, t0 - (y : Int) = t := ⟨_, rfl⟩
          have t1 : -4294967297 ≤ t0 := by omega
          have t2 : t0 < 4294967296 := by omega
          have t3 : -8589934592 ≤ t := by omega
          have t4 : t < 4294967296 := by omega
          have t5 : ¬ t < 0 := by omega
          have t6 : t % 4294967296 = (r : Int) := by omega
          clear e3
          clear hr hyl hxl
          go_wp2_with (at_builtin; refine app1 rfl _ _ rfl w.heap.size Ao k co F (by rfl) (hO.out.ext (Ext.alloc _ _)) _ 1 r (by rfl) (by go_simp <;> omega) (by omega) (by have := hX.out.size; simp; omega) ?_; intro g cap w2 hrow hg hat hlt2; have HR := Lib.hid hrow; have HX2 : Hid (Ext w w2) := ext_app (hX.out.trans (Ext.alloc _ _)) (hO.out.ext (Ext.alloc _ _)) hg; clear hrow hg hat hlt2)
          go_roundw
          case rel =>
            refine ⟨k + 1, 0, some ⟨g, 0, none⟩, cap, upd F k r, by omega, by go_num, by go_num, rfl, by omega, HR.out.on, HX2, ?_, ?_⟩
            · exact fun i hi => by
                by_cases e : i = k
                · subst e; rw [upd_same]; exact hrb
                · rw [upd_ne _ e]; exact hB.out i (by omega)
            · show _ = _
              rw [pB_succ, valN_upd, valN, valN, HXE.out, HYE.out]
              have := hs.out
              omega
          case measure => simp [intOf]; omega

        · have hpq := hxl
          clear hpq
          have hs := Lib.hid (sub_step (s := r) (x := x) (y := y) (c := bw) (c' := 0) hv.out (by omega))
          have HXE := Lib.hid hxe; have HYE := Lib.hid hye
          have e3 : (r : Int) % 4294967296 = (r : Int) := by omega
          clear hxe hye
          have hy0 : y = 0 := by rw [← HYE.out]; exact dg_high (by rw [Hle2.out]; omega)
          subst hy0
          obtain ⟨t, ht⟩ : ∃ t : Int, (x : Int) - (bw : Int) = t := ⟨_, rfl⟩
          have t3 : -8589934592 ≤ t := by omega
          have t4 : t < 4294967296 := by omega
          have t5 : ¬ t < 0 := by omega
          have t6 : t % 4294967296 = (r : Int) := by omega
          clear e3
          clear hr hyl hxl
          go_wp2_with (at_builtin; refine app1 rfl _ _ rfl w.heap.size Ao k co F (by rfl) (hO.out.ext (Ext.alloc _ _)) _ 1 r (by rfl) (by go_simp <;> omega) (by omega) (by have := hX.out.size; simp; omega) ?_; intro g cap w2 hrow hg hat hlt2; have HR := Lib.hid hrow; have HX2 : Hid (Ext w w2) := ext_app (hX.out.trans (Ext.alloc _ _)) (hO.out.ext (Ext.alloc _ _)) hg; clear hrow hg hat hlt2)
          go_roundw
          case rel =>
            refine ⟨k + 1, 0, some ⟨g, 0, none⟩, cap, upd F k r, by omega, by go_num, by go_num, rfl, by omega, HR.out.on, HX2, ?_, ?_⟩
            · exact fun i hi => by
                by_cases e : i = k
                · subst e; rw [upd_same]; exact hrb
                · rw [upd_ne _ e]; exact hB.out i (by omega)
            · show _ = _
              rw [pB_succ, valN_upd, valN, valN, HXE.out, HYE.out]
              have := hs.out
              omega
          case measure => simp [intOf]; omega

    · obtain rfl : k = L := by omega
      have hE : Hid (valN F k = m - n) := by
        show _ = _
        have h1 := hv.out
        rw [valN_dg_all (m := m) (by rw [Hle.out]; omega), valN_dg_all (m := n) (by rw [Hle2.out]; omega)] at h1
        exact minus_end h1 (valN_lt hB.out) HMN.out hbw
      clear hv
      go_wp2_with (go_at_call 49; refine (rtrim_any _ _ _ _ _ hO.out.rd hB.out hO.out.ok.1 hO.out.ok.2.1).mono ?_; rintro e w4 ⟨rfl, rfl⟩)
      go_ret
      exact natRes_on hO.out hB.out hE.out rfl hX.out
end

/-! ### Refd -/
section
open Go.RowKit

set_option maxRecDepth 100000 in
set_option maxHeartbeats 1000000 in
theorem rleft_any (A : Option Addr) (m n ca : Nat) (w : World) (ha : Rd w A (len m) (dg m)) (hL : len m ≤ 1073741824) (hn : n ≤ 1073741824) :
    Calls Tryd.prog 34 #[.slice A (len m) ca, I n] w (NatRes (m * 2 ^ n) w) := by
  have HA := Lib.hid ha; clear ha
  obtain ⟨L, hLe⟩ : ∃ L, len m = L := ⟨_, rfl⟩
  rw [hLe] at hL HA ⊢
  have HLe := Lib.hid hLe; clear hLe
  obtain ⟨q, hq'⟩ : ∃ q, n / 32 = q := ⟨_, rfl⟩
  obtain ⟨r, hr'⟩ : ∃ r, n % 32 = r := ⟨_, rfl⟩
  have hr32 : r < 32 := by omega
  have hqn : q ≤ n := by omega
  have hq : (n : Int) / 32 = (q : Int) := by omega
  have hr : (n : Int) % 32 = (r : Int) := by omega
  have HQ := Lib.hid hq'; clear hq'
  have HR := Lib.hid hr'; clear hr'
  obtain ⟨w1, hrun, hrow, hx⟩ := run_make_row w q (by omega)
  have hR0 := Lib.hid hrow.on
  have hX0 := Lib.hid hx
  clear hrow hx
  go_enter Tryd.func34, Tryd.ntmps34
  go_wp2
  clear hrun
  go_loopw [5, 6, 14] (fun so sc si wr => ∃ (i c : Nat) (Ao : Option Addr) (co : Nat) (F : Nat → Nat), i ≤ L ∧ si = I i ∧ sc = U8 c ∧ so = .slice Ao (q + i : Nat) co ∧ c < 2 ^ r ∧ Hid (On wr w.heap.size Ao (q + i) co F) ∧ Hid (Ext w wr) ∧ Hid (∀ j, j < q + i → F j < 4294967296) ∧ Hid (valN F (q + i) + c * pB (q + i) = m % pB i * 2 ^ n)) (fun _ _ si _ => L - (intOf si).toNat)
  case atStart => exact ⟨0, 0, _, _, _, Nat.zero_le _, rfl, rfl, rfl, p2_pos _, hR0, hX0, (fun _ _ => by show (0:Nat) < _; decide), by show _ = _; rw [valN_zeros (f := fun _ => 0) (t := 0) (Nat.zero_le _) (fun _ _ _ => rfl)]; simp [valN, pB_zero, Nat.mod_one]⟩
  case round =>
    clear hR0 hX0
    obtain ⟨i, c, Ao, co, F, hi, rfl, rfl, rfl, hc, hO, hX, hB, hv⟩ := hrel
    by_cases hlt : i < L
    · obtain ⟨b2, o2, rfl, hb2, c2⟩ := (HA.out.ext hX.out).at_ hlt
      have hxl := dg_lt m i
      obtain ⟨x, hxe⟩ : ∃ x, dg m i = x := ⟨_, rfl⟩
      rw [hxe] at c2 hxl
      have HX := Lib.hid hxe; clear hxe
      obtain ⟨p, hp⟩ : ∃ p, x * 2 ^ r = p := ⟨_, rfl⟩
      have hpb : p < 18446744073709551616 := by
        have h1 : x * 2 ^ r ≤ 4294967295 * 2 ^ r := Nat.mul_le_mul_right _ (by omega)
        have h2 := p2_le (p := r) (q := 31) (by omega)
        omega
      have ew : IntKind.u64.wrap ((x : Int) * 2 ^ r) = (p : Int) := by
        have : ((x : Int) * 2 ^ r) = (p : Int) := by rw [← hp]; simp
        rw [this]; show (p : Int) % 18446744073709551616 = p; omega
      have h3 := shl_carry (m := m) (n := n) (i := i) (c := c) (by rw [HR.out]; exact hc)
      have hs := Lib.hid (shl_step (m := m) (n := n) (i := i) (S := valN F (q + i)) (c := c) (by rw [HQ.out]; exact hv.out))
      have hs2 := hs.out
      rw [HQ.out, HR.out, HX.out] at hs2
      rw [HR.out, HX.out] at h3
      have ho := or_add (b := x) hc
      rw [hp] at ho h3 hs2
      have hcb : c < 4294967296 := by
        have := p2_le (p := r) (q := 31) (by omega); omega
      have htb : c + p < 18446744073709551616 := by
        have h1 : x * 2 ^ r ≤ 4294967295 * 2 ^ r := Nat.mul_le_mul_right _ (by omega)
        have h2 := p2_le (p := r) (q := 31) (by omega)
        omega
      obtain ⟨t, ht⟩ : ∃ t, c + p = t := ⟨_, rfl⟩
      have e1 : bits BinOp.or IntKind.u64 (c : Int) (p : Int) = (t : Int) := by
        rw [or_nat64 (by omega) hpb, ho, ht]
      rw [ht] at h3 hs2 htb
      obtain ⟨lo, hlo⟩ : ∃ lo, t % 4294967296 = lo := ⟨_, rfl⟩
      obtain ⟨hi', hhi⟩ : ∃ hi', t / 4294967296 = hi' := ⟨_, rfl⟩
      have e3 : (t : Int) % 4294967296 = (lo : Int) := by omega
      have e4 : (t : Int) / 4294967296 = (hi' : Int) := by omega
      have hlob : lo < 4294967296 := by omega
      rw [hlo, hhi] at hs2
      rw [hhi] at h3
      have HS2 := Lib.hid hs2
      have H3 : Hid (hi' < 2 ^ r) := h3
      clear hp h3 hs hs2 hlo hhi hv ho ht
      go_wp2_with (at_builtin; refine app1 rfl _ _ rfl w.heap.size Ao (q + i) co F (by rfl) (hO.out.ext (Ext.alloc _ _)) _ 1 lo (by rfl) (by go_simp) (by omega) (by have := hX.out.size; simp; omega) ?_; intro g cap w2 hrow hg hat hlt2; have HRW := Lib.hid hrow; have HX2 : Hid (Ext w w2) := ext_app (hX.out.trans (Ext.alloc _ _)) (hO.out.ext (Ext.alloc _ _)) hg; clear hrow hg hat hlt2)
      go_roundw
      case rel =>
        refine ⟨i + 1, hi', some ⟨g, 0, none⟩, cap, upd F (q + i) lo, by omega, by go_num, rfl, rfl, H3.out, HRW.out.on, HX2, ?_, ?_⟩
        · exact fun j hj => by
            by_cases e : j = q + i
            · subst e; rw [upd_same]; exact hlob
            · rw [upd_ne _ e]; exact hB.out j (by omega)
        · show _ = _
          rw [show q + (i + 1) = q + i + 1 by omega, valN_upd]
          exact HS2.out
      case measure => simp [intOf]; omega
    · obtain rfl : i = L := by omega
      have hcb : c < 4294967296 := by
        have := p2_le (p := r) (q := 31) (by omega); omega
      have hE : Hid (valN (upd F (q + i) c) (q + i + 1) = m * 2 ^ n) := by
        show _ = _
        rw [valN_upd, hv.out, Nat.mod_eq_of_lt (lt_pB (by rw [HLe.out]; omega))]
      have hBB : Hid (∀ j, j < q + i + 1 → upd F (q + i) c j < 4294967296) := fun j hj => by
        by_cases e : j = q + i
        · subst e; rw [upd_same]; exact hcb
        · rw [upd_ne _ e]; exact hB.out j (by omega)
      have e3 : (c : Int) % 4294967296 = (c : Int) := by omega
      clear hv hB
      go_wp2_with (first
        | (at_builtin; refine app1 rfl _ _ rfl w.heap.size Ao (q + i) co F (by rfl) (hO.out.ext (Ext.alloc _ _)) _ 1 c (by rfl) (by go_simp) (by omega) (by have := hX.out.size; simp; omega) ?_; intro g cap w2 hrow hg hat hlt2; have HRW := Lib.hid hrow; have HX2 : Hid (Ext w w2) := ext_app (hX.out.trans (Ext.alloc _ _)) (hO.out.ext (Ext.alloc _ _)) hg; clear hrow hg hat hlt2)
        | (go_at_call 49; refine (rtrim_any _ _ _ _ _ HRW.out.rd hBB.out HRW.out.cap.1 HRW.out.cap.2).mono ?_; rintro e w4 ⟨rfl, rfl⟩))
      go_ret
      exact natRes_of HRW.out hBB.out hE.out rfl HX2.out
end

/-! ### Refe -/
section
open Go.RowKit

def RightRes (m n : Nat) (w : World) (e : Ending) (w' : World) : Prop := ∃ A c, e = .returned (.tuple #[.slice A (len (m / 2 ^ n)) c, .bool (decide (m % 2 ^ n ≠ 0))]) ∧ On w' w.heap.size A (len (m / 2 ^ n)) c (dg (m / 2 ^ n)) ∧ Ext w w'

theorem cut_step (m i : Nat) : m % 2 ^ (i + 1) = m % 2 ^ i + m / 2 ^ i % 2 * 2 ^ i := by
  rw [Nat.pow_succ, Nat.mod_mul, Nat.mul_comm]
theorem cut_some {m i : Nat} (h : m % 2 ^ i ≠ 0) : decide (m % 2 ^ (i + 1) ≠ 0) = true := by
  rw [cut_step]; exact decide_eq_true (by omega)
theorem cut_none {m i : Nat} (h : m % 2 ^ i = 0) : decide (m % 2 ^ (i + 1) ≠ 0) = decide (m / 2 ^ i % 2 = 1) := by
  have hp := p2_pos i
  rw [cut_step, h, Nat.zero_add]
  rcases Nat.mod_two_eq_zero_or_one (m / 2 ^ i) with e | e
  · rw [e]; simp
  · rw [e]; simp
theorem right_end {w w' : World} {m n k c : Nat} {A : Option Addr} {f : Nat → Nat} {cb : Bool} {e : Ending} (hO : On w' w.heap.size A k c f) (hb : ∀ i, i < k → f i < 4294967296) (hv : valN f k = m / 2 ^ n) (hc : cb = decide (m % 2 ^ n ≠ 0))
    (he : e = .returned (.tuple #[.slice A (len (valN f k)) c, .bool cb])) (hx : Ext w w') : RightRes m n w e w' := by
  obtain ⟨A', c', h1, h2, h3⟩ := natRes_on (e := .returned (.slice A (len (valN f k)) c)) hO hb hv rfl hx
  rw [hv] at h1 he
  cases h1
  exact ⟨A, c, by rw [he, hc], h2, h3⟩

set_option maxRecDepth 100000 in
set_option maxHeartbeats 1000000 in
theorem rright_any (A : Option Addr) (m n ca : Nat) (w : World) (ha : Rd w A (len m) (dg m)) (hL : len m ≤ 33554432) (hn : n ≤ 1073741824) :
    Calls Tryd.prog 32 #[.slice A (len m) ca, I n] w (RightRes m n w) := by
  have HA := Lib.hid ha; clear ha
  obtain ⟨L, hLe⟩ : ∃ L, len m = L := ⟨_, rfl⟩
  rw [hLe] at hL HA ⊢
  have HLe := Lib.hid hLe; clear hLe
  obtain ⟨q, hq'⟩ : ∃ q, n / 32 = q := ⟨_, rfl⟩
  obtain ⟨r, hr'⟩ : ∃ r, n % 32 = r := ⟨_, rfl⟩
  have hr32 : r < 32 := by omega
  have hqn : q ≤ n := by omega
  have hq : (n : Int) / 32 = (q : Int) := by omega
  have hr : (n : Int) % 32 = (r : Int) := by omega
  have HQ := Lib.hid hq'; clear hq'
  have HR := Lib.hid hr'; clear hr'
  go_enter Tryd.func32, Tryd.ntmps32
  go_wp2
  go_loopw [6, 7] (fun sc si wr => w = wr ∧ ∃ (i : Nat) (cb : Bool), i ≤ n ∧ i ≤ 32 * L ∧ si = I i ∧ sc = .bool cb ∧ Hid (cb = decide (m % 2 ^ i ≠ 0))) (fun _ si _ => n - (intOf si).toNat)
  case atStart => exact ⟨rfl, 0, false, Nat.zero_le _, Nat.zero_le _, rfl, rfl, by show _ = _; simp [Nat.mod_one]⟩
  case round =>
    obtain ⟨rfl, i, cb, hin, hiL, rfl, rfl, hcb⟩ := hrel
    by_cases hlt : i < n ∧ i < 32 * L
    · obtain ⟨l1, l2⟩ := hlt
      have i2 : (i : Int) < 32 * (L : Int) := by omega
      by_cases hc0 : m % 2 ^ i = 0
      · have hcn := cut_none hc0
        obtain rfl : cb = false := by rw [hcb.out]; simp [hc0]
        obtain ⟨a, hae⟩ : ∃ a, i / 32 = a := ⟨_, rfl⟩
        obtain ⟨s, hse⟩ : ∃ s, i % 32 = s := ⟨_, rfl⟩
        have haL : a < L := by omega
        have ea : (i : Int) / 32 = (a : Int) := by omega
        have es : (i : Int) % 32 = (s : Int) := by omega
        have hs32 : s < 32 := by omega
        have hbit := bit_dg m i
        rw [hae, hse] at hbit
        obtain ⟨b2, o2, rfl, hb2, c2⟩ := HA.out.at_ haL
        have hxl := dg_lt m a
        obtain ⟨x, hxe⟩ : ∃ x, dg m a = x := ⟨_, rfl⟩
        rw [hxe] at c2 hxl hbit
        clear hxe
        obtain ⟨v, hv⟩ : ∃ v, x / 2 ^ s = v := ⟨_, rfl⟩
        have ev : (x : Int) / 2 ^ s = (v : Int) := by rw [← hv]; simp
        have hvb : v < 4294967296 := by rw [← hv]; exact Nat.lt_of_le_of_lt (Nat.div_le_self _ _) hxl
        have eb := and_one32 hvb
        rw [hv] at hbit
        rw [hbit] at eb
        have hd2 : m / 2 ^ i % 2 < 2 := Nat.mod_lt _ (by decide)
        obtain ⟨d, hd⟩ : ∃ d, m / 2 ^ i % 2 = d := ⟨_, rfl⟩
        rw [hd] at eb hcn hd2
        have HC := Lib.hid hcn
        clear hbit hd hcn hv hc0 hcb
        have i1 : (0 : Int) ≤ (a : Int) := by omega
        go_wp2
        go_roundw
        case rel =>
          refine ⟨trivial, i + 1, decide (d = 1), by omega, by omega, by go_num, ?_, HC.out.symm⟩
          rcases (show d = 0 ∨ d = 1 by omega) with rfl | rfl
          · rfl
          · rfl
        case measure => simp [intOf]; omega
      · have hcn := Lib.hid (cut_some hc0)
        obtain rfl : cb = true := by rw [hcb.out]; simp [hc0]
        clear hcb hc0
        go_wp2
        go_roundw
        case rel => exact ⟨trivial, i + 1, true, by omega, by omega, by go_num, rfl, hcn.out.symm⟩
        case measure => simp [intOf]; omega
    · by_cases hge : 32 * L ≤ n
      · have hi : i = 32 * L := by omega
        have hm : m < 2 ^ i := by rw [hi, ← pB_two]; exact lt_pB (by rw [HLe.out]; omega)
        have hm2 : m < 2 ^ n := Nat.lt_of_lt_of_le hm (p2_le hin)
        have hE : Hid (cb = decide (m % 2 ^ n ≠ 0)) := by
          show _ = _
          rw [hcb.out, Nat.mod_eq_of_lt hm, Nat.mod_eq_of_lt hm2]
        have hZ : Hid (m / 2 ^ n = 0) := Nat.div_eq_of_lt hm2
        have i2 : ¬ (i : Int) < 32 * (L : Int) := by omega
        have i3 : 32 * (L : Int) ≤ (n : Int) := by omega
        clear hcb hm hm2
        go_wp2
        all_goals
          go_ret2
          exact right_end (k := 0) (f := fun _ => 0) (On.nil _ _ _) (fun j hj => by omega) hZ.out.symm hE.out (by rw [show valN (fun _ => 0) 0 = 0 from rfl, len_zero]; rfl) (Ext.refl _)
      · have hi : i = n := by omega
        subst hi
        have hE := hcb
        clear hcb
        have hql : q < L := by have := HQ.out; omega
        have hl : len (m / 2 ^ i) ≤ L - q := by
          rw [two_pow_split, ← Nat.div_div_eq_div_mul, HQ.out]
          have := len_mono (Nat.div_le_self (m / pB q) (2 ^ (i % 32)))
          rw [len_div, HLe.out] at this
          exact this
        obtain ⟨K, hK'⟩ : ∃ K, L - q = K := ⟨_, rfl⟩
        rw [hK'] at hl
        have HL := Lib.hid hl; clear hl
        have i3 : ¬ 32 * (L : Int) ≤ (i : Int) := by omega
        go_wp2
        go_loopw [8, 9] (fun so sj wr => ∃ (j : Nat) (Ao : Option Addr) (co : Nat) (F : Nat → Nat), j ≤ K ∧ sj = I (q + j : Nat) ∧ so = .slice Ao j co ∧ Hid (On wr w.heap.size Ao j co F) ∧ Hid (Ext w wr) ∧ Hid (∀ t, t < j → F t = dg (m / 2 ^ i) t)) (fun _ sj _ => L - (intOf sj).toNat)
        case atStart => exact ⟨0, none, 0, fun _ => 0, Nat.zero_le _, by simp, rfl, On.nil _ _ _, Ext.refl _, fun t ht => by omega⟩
        case round =>
          obtain ⟨j, Ao, co, F, hj, rfl, rfl, hO, hX, hF⟩ := hrel
          by_cases hlt2 : j < K
          · have hdg := dg_shr m i j
            rw [HQ.out, HR.out] at hdg
            have hjL : q + j < L := by omega
            obtain ⟨b2, o2, rfl, hb2, c2⟩ := (HA.out.ext hX.out).at_ hjL
            have hxl := dg_lt m (q + j)
            obtain ⟨x, hxe⟩ : ∃ x, dg m (q + j) = x := ⟨_, rfl⟩
            rw [hxe] at c2 hxl hdg
            clear hxe
            obtain ⟨z, hz⟩ : ∃ z, dg (m / 2 ^ i) j = z := ⟨_, rfl⟩
            rw [hz] at hdg
            have hzb : z < 4294967296 := by rw [← hz]; exact dg_lt _ _
            have HZ := Lib.hid hz; clear hz
            by_cases hlast : q + j + 1 < L
            · have c3 : wr.cell? ⟨b2, o2 + (q + j + 1), none⟩ = some (U4 (dg m (q + j + 1))) := by
                obtain ⟨b3, o3, e3, _, c3⟩ := (HA.out.ext hX.out).at_ hlast
                cases e3; exact c3
              have hyl := dg_lt m (q + j + 1)
              obtain ⟨y, hye⟩ : ∃ y, dg m (q + j + 1) = y := ⟨_, rfl⟩
              rw [hye] at c3 hyl hdg
              clear hye
              have hor := or_add (a := x) (b := y) (p := 32) hxl
              obtain ⟨t, ht⟩ : ∃ t, x + y * 4294967296 = t := ⟨_, rfl⟩
              have e1 : bits BinOp.or IntKind.u64 (x : Int) ((y : Int) * 4294967296) = (t : Int) := by
                rw [show (y : Int) * 4294967296 = ((y * 4294967296 : Nat) : Int) by omega, or_nat64 (by omega) (by omega)]
                rw [show y * 4294967296 = y * 2 ^ 32 from rfl, hor]
                exact congrArg _ ht
              have htb : t < 18446744073709551616 := by omega
              rw [ht] at hdg
              obtain ⟨v, hv⟩ : ∃ v, t / 2 ^ r = v := ⟨_, rfl⟩
              have ev : (t : Int) / 2 ^ r = (v : Int) := by rw [← hv]; simp
              have hvb : v < 18446744073709551616 := by rw [← hv]; exact Nat.lt_of_le_of_lt (Nat.div_le_self _ _) htb
              rw [hv] at hdg
              have e5 : (v : Int) % 4294967296 = (z : Int) := by omega
              clear hdg hv hor ht
              go_wp2_with (at_builtin; refine app1 rfl _ _ rfl w.heap.size Ao j co F (by rfl) (hO.out.ext (Ext.alloc _ _)) _ 1 z (by rfl) (by go_simp <;> omega) (by omega) (by have := hX.out.size; simp; omega) ?_; intro g cap w2 hrow hg hat hlt3; have HRW := Lib.hid hrow; have HX2 : Hid (Ext w w2) := ext_app (hX.out.trans (Ext.alloc _ _)) (hO.out.ext (Ext.alloc _ _)) hg; clear hrow hg hat hlt3)
              go_roundw
              case rel =>
                refine ⟨j + 1, some ⟨g, 0, none⟩, cap, upd F j z, by omega, by go_num, rfl, HRW.out.on, HX2, ?_⟩
                exact fun t ht => by
                  by_cases e : t = j
                  · subst e; rw [upd_same, HZ.out]
                  · rw [upd_ne _ e]; exact hF.out t (by omega)
              case measure => simp [intOf]; omega
            · have hlast2 : q + j + 1 = L := by omega
              rw [dg_high (m := m) (i := q + j + 1) (by rw [HLe.out]; omega), Nat.zero_mul, Nat.add_zero] at hdg
              obtain ⟨v, hv⟩ : ∃ v, x / 2 ^ r = v := ⟨_, rfl⟩
              have ev : (x : Int) / 2 ^ r = (v : Int) := by rw [← hv]; simp
              have hvb : v < 4294967296 := by rw [← hv]; exact Nat.lt_of_le_of_lt (Nat.div_le_self _ _) hxl
              rw [hv] at hdg
              have e5 : (v : Int) % 4294967296 = (z : Int) := by omega
              clear hdg hv
              go_wp2_with (at_builtin; refine app1 rfl _ _ rfl w.heap.size Ao j co F (by rfl) (hO.out.ext (Ext.alloc _ _)) _ 1 z (by rfl) (by go_simp <;> omega) (by omega) (by have := hX.out.size; simp; omega) ?_; intro g cap w2 hrow hg hat hlt3; have HRW := Lib.hid hrow; have HX2 : Hid (Ext w w2) := ext_app (hX.out.trans (Ext.alloc _ _)) (hO.out.ext (Ext.alloc _ _)) hg; clear hrow hg hat hlt3)
              go_roundw
              case rel =>
                refine ⟨j + 1, some ⟨g, 0, none⟩, cap, upd F j z, by omega, by go_num, rfl, HRW.out.on, HX2, ?_⟩
                exact fun t ht => by
                  by_cases e : t = j
                  · subst e; rw [upd_same, HZ.out]
                  · rw [upd_ne _ e]; exact hF.out t (by omega)
              case measure => simp [intOf]; omega
          · obtain rfl : j = K := by omega
            have hV : Hid (valN F j = m / 2 ^ i) := by
              show _ = _
              rw [valN_congr hF.out, valN_dg_all HL.out]
            have hB : Hid (∀ t, t < j → F t < 4294967296) := fun t ht => by rw [hF.out t ht]; exact dg_lt _ _
            have hjl : ¬ q + j < L := by omega
            go_wp2_with (go_at_call 49; refine (rtrim_any _ _ _ _ _ hO.out.rd hB.out hO.out.ok.1 hO.out.ok.2.1).mono ?_; rintro e w4 ⟨rfl, rfl⟩)
            go_ret2
            exact right_end hO.out hB.out hV.out hE.out rfl hX.out
end
end

/-! ### Mreff -/
section
/-! ### Reff -/
section
open Go.RowKit

theorem news_rd {w : World} {ad : Addr} {n : Nat} {f : Nat → Nat} (hr : Rd w (some ad) n f) (t : TypeId) : ∀ j u, (wl f n)[j]? = some u → (w.alloc (.cells #[] t)).cell? (ad.add j) = some u := by
  intro j u hj
  by_cases hjn : j < n
  · obtain ⟨b, o, e, hb, hc⟩ := hr (by omega)
    injection e with e
    subst e
    rw [wl_get _ hjn] at hj
    injection hj with hj
    subst hj
    rw [World.cell?_alloc_lt _ _ _ (by unfold Addr.add; split <;> exact hb)]
    have := hc j hjn
    unfold Addr.add; split
    · rename_i h0; subst h0; exact this
    · exact this
  · rw [List.getElem?_eq_none (by rw [wl_len]; omega)] at hj; cases hj
theorem slice_of_owns {w : World} {b n : Nat} {v : Value} {l : List Value} (h : w.ownsRow b 86 1 v n l) : ∃ A' c', v = .slice A' n c' := by
  rcases h.2 with ⟨rfl, hz⟩ | ⟨g, cap, cur, rfl, _⟩
  · exact ⟨none, 0, by rw [hz]⟩
  · exact ⟨_, _, rfl⟩
theorem on_some {w : World} {b n c : Nat} {A : Option Addr} {f : Nat → Nat} (h : On w b A n c f) (h0 : n ≠ 0) : ∃ g, A = some ⟨g, 0, none⟩ := by
  rcases h.cases with ⟨_, e, _⟩ | ⟨g, rfl, _⟩
  · exact absurd e h0
  · exact ⟨g, rfl⟩
theorem rd_val {w : World} {A : Option Addr} {n m : Nat} {f : Nat → Nat} (h : Rd w A n f) (hb : ∀ i, i < n → f i < 4294967296) (hv : valN f n = m) : Rd w A (len m) (dg m) := fun h0 => by
  subst hv
  have hl := len_le (valN_lt hb)
  obtain ⟨b, o, rfl, hbw, hc⟩ := h (by omega)
  exact ⟨b, o, rfl, hbw, fun i hi => by rw [hc i (by omega), dg_valN hb (by omega)]⟩

set_option maxRecDepth 100000 in
set_option maxHeartbeats 4000000 in
theorem rnumber_fine (neg : Bool) (A : Option Addr) (n c k m : Nat) (f : Nat → Nat) (w : World) (ha : Rd w A n f) (oa : SlOk A n c) (hb : ∀ i, i < n → f i < 4294967296) (hv' : valN f n = m) (hn : n ≤ 33554432) (hk2 : k ≤ 1073741824) (hm : m ≠ 0) (hk : k - hv m k ≤ 65536) :
    Calls Tryd.prog 31 #[.bool neg, .slice A n c, I k] w (DyRes (mkD neg m k) w) := by
  have HM := Lib.hid hm; clear hm
  have HK := Lib.hid hk; clear hk
  have hlm : len m ≤ n := by rw [← hv']; exact len_le (valN_lt hb)
  have HR := Lib.hid ((rd_val ha hb hv').ext (Ext.alloc w (.cells #[.bool false, .slice none 0 0, I 0] 37)))
  have HA := Lib.hid (ha.ext (Ext.alloc w (.cells #[.bool false, .slice none 0 0, I 0] 37))); clear ha
  have SB := Lib.hid (St.new w (.bool false) (.slice none 0 0) (I 0) 37)
  have HB := Lib.hid hb; clear hb
  obtain ⟨o1, o2, _⟩ := oa
  have HV := Lib.hid hv'; clear hv'
  obtain ⟨i0, hi0, hz0, hz1, hz2⟩ := info_parts infoU
  obtain ⟨L, hLe⟩ : ∃ L, len m = L := ⟨_, rfl⟩
  have HLe := Lib.hid hLe
  rw [hLe] at hlm
  have hright : Hid (∀ j : Nat, j ≤ 1073741824 → Calls Tryd.prog 32 #[.slice A L c, I j] (w.alloc (.cells #[.bool false, .slice none 0 0, I 0] 37)) (RightRes m j (w.alloc (.cells #[.bool false, .slice none 0 0, I 0] 37)))) := fun j hj => by
    rw [← HLe.out]; exact rright_any A m j c _ HR.out (by rw [HLe.out]; omega) hj
  rw [hLe] at HR
  clear hLe
  go_enter Tryd.func31, Tryd.ntmps31
  go_wp2_with (go_at_call 49; refine (rtrim_any A n c f _ HA.out HB.out o1 o2).mono ?_; rw [HV.out, HLe.out]; rintro e w4 ⟨rfl, rfl⟩)
  go_loopw [7] (fun si wr => w.alloc (.cells #[.bool false, .slice none 0 0, I 0] 37) = wr ∧ ∃ j : Nat, j ≤ k ∧ j ≤ 32 * L ∧ si = I j ∧ Hid (∀ i, i < j → m / 2 ^ i % 2 = 0)) (fun si _ => k - (intOf si).toNat)
  case atStart => exact ⟨rfl, 0, Nat.zero_le _, Nat.zero_le _, rfl, fun i hi => by omega⟩
  case round =>
    obtain ⟨rfl, j, hjk, hjL, rfl, hz⟩ := hrel
    by_cases hlt : j < k ∧ j < 32 * L
    · obtain ⟨l1, l2⟩ := hlt
      have i2 : (j : Int) < 32 * (L : Int) := by omega
      obtain ⟨a, hae⟩ : ∃ a, j / 32 = a := ⟨_, rfl⟩
      obtain ⟨s, hse⟩ : ∃ s, j % 32 = s := ⟨_, rfl⟩
      have haL : a < L := by omega
      have ea : (j : Int) / 32 = (a : Int) := by omega
      have es : (j : Int) % 32 = (s : Int) := by omega
      have hs32 : s < 32 := by omega
      have hbit := bit_dg m j
      rw [hae, hse] at hbit
      obtain ⟨b2, o2', rfl, hb2, c2⟩ := HR.out.at_ haL
      have hxl := dg_lt m a
      obtain ⟨x, hxe⟩ : ∃ x, dg m a = x := ⟨_, rfl⟩
      rw [hxe] at c2 hxl hbit
      clear hxe
      obtain ⟨v, hv⟩ : ∃ v, x / 2 ^ s = v := ⟨_, rfl⟩
      have ev : (x : Int) / 2 ^ s = (v : Int) := by rw [← hv]; simp
      have hvb : v < 4294967296 := by rw [← hv]; exact Nat.lt_of_le_of_lt (Nat.div_le_self _ _) hxl
      have eb := and_one32 hvb
      rw [hv] at hbit
      rw [hbit] at eb
      have i1 : (0 : Int) ≤ (a : Int) := by omega
      clear hv hbit hae hse
      by_cases hd : m / 2 ^ j % 2 = 0
      · rw [hd] at eb
        have hz' : Hid (∀ i, i < j + 1 → m / 2 ^ i % 2 = 0) := fun i hi => by
          by_cases e : i = j
          · subst e; exact hd
          · exact hz.out i (by omega)
        clear hd
        go_wp2
        go_roundw
        case rel => exact ⟨trivial, j + 1, by omega, by omega, by go_num, hz'⟩
        case measure => simp [intOf]; omega
      · have hd1 : m / 2 ^ j % 2 = 1 := by omega
        rw [hd1] at eb
        clear hd
        have hjv : hv m k = j := hv_of_bits hjk (fun i hi => hz.out i hi) (fun _ => hd1)
        have HJ := Lib.hid hjv
        have hx0 : m / 2 ^ j ≠ 0 := by rw [← hjv]; exact hv_div_pos HM.out
        have hkj : k - j ≤ 65536 := by rw [← hjv]; exact HK.out
        obtain ⟨t, ht⟩ : ∃ t, k - j = t := ⟨_, rfl⟩
        have et : (k : Int) - (j : Int) = (t : Int) := by omega
        have ht6 : t ≤ 65536 := by omega
        have HE : Hid (mkD neg m k = ⟨neg, m / 2 ^ j, t⟩) := by
          show _ = _
          rw [mkD_halves HM.out HK.out, hjv, ht]
        obtain ⟨x, hxe⟩ : ∃ x, m / 2 ^ j = x := ⟨_, rfl⟩
        rw [hxe] at hx0 HE
        have hlx : len x ≤ L := by rw [← hxe, ← HLe.out]; exact len_mono (Nat.div_le_self _ _)
        have h0 : len x ≠ 0 := fun e => hx0 (len_eq_zero.1 e)
        have hl0 : ((len x : Int) == 0) = false := by simp; omega
        have HX := Lib.hid hxe
        clear hjv hxe ht hz hkj
        go_wp2_with (first
          | (go_at_call 32; (with_reducible refine (hright.out j (by omega)).mono ?_); rintro e w2 ⟨A1, c1, rfl, hon, hx⟩; rw [HX.out] at hon ⊢; have HON := Lib.hid hon; have HXT := Lib.hid hx; clear hon hx; obtain ⟨g1, rfl⟩ := on_some HON.out h0; have HN := Lib.hid (news_rd HON.out.rd 86); obtain ⟨hc, hf⟩ := HXT.out.old; have k0 : w2.frozen? ⟨w.heap.size, 0, none⟩ = false := (hf _ _ (by simp)).trans (by go_simp); have k1 : w2.frozen? ⟨w.heap.size, 1, none⟩ = false := (hf _ _ (by simp)).trans (by go_simp); have k2 : w2.frozen? ⟨w.heap.size, 2, none⟩ = false := (hf _ _ (by simp)).trans (by go_simp); have hws : w.heap.size < w2.heap.size := (SB.out.ext HXT.out).lt; clear hc hf)
          | (at_builtin; refine wpList_append_own _ rfl _ _ _ rfl w2.heap.size 86 i0 _ 1 4 Tryd.underlying35 hi0 hz0 hz1 hz2 rfl (by omega) (.slice (some ⟨w2.heap.size, 0, none⟩) 0 0) 0 [] rfl (World.ownsRow_made w2 #[] 0 (Nat.le_refl _) (Nat.zero_le _) rfl) _ (len x) c1 (wl (dg x) (len x)) rfl (by rw [wl_len]; omega) HN.out (by intro u hu; unfold wl at hu; simp at hu; obtain ⟨_, _, rfl⟩ := hu; rfl) (by unfold maxLen; omega) (by omega) (by simp) ?_; intro v1 w3 hown1 hg1 _; rw [Nat.zero_add, List.nil_append] at hown1; obtain ⟨A', c', rfl⟩ := slice_of_owns hown1; have HX3 : Hid (Ext w2 w3) := Below.grown (Ext.alloc w2 _) hg1 (by simp) (fun k hk => by simp [Value.ownBlock] at hk; omega); have HO3 : Hid (On w3 w2.heap.size A' (len x) c' (dg x)) := hown1; clear hown1 hg1; have m0 := (HX3.out.old.2 w.heap.size 0 hws).trans k0; have m1 := (HX3.out.old.2 w.heap.size 1 hws).trans k1; have m2 := (HX3.out.old.2 w.heap.size 2 hws).trans k2; obtain ⟨z0, z1, z2⟩ := (SB.out.ext HXT.out).ext HX3.out))
        have hsz := HX3.out.size
        exact bodyPost_ret (v := dv neg A' (len x) c' t) (by simp [results, Tryd.results31, go_sem, z0, z1, z2]) rfl (DyRes.of (b := w2.heap.size) HE.out (by repeat (first | exact HO3.out | refine On.set ?_ (by omega) _ _)) (by omega) (by repeat (first | exact ((Ext.alloc _ _).trans HXT.out).trans HX3.out | refine Ext.set ?_ (Nat.le_refl _) _)))
    · by_cases hjk2 : j < k
      · exfalso
        have hj32 : j = 32 * L := by omega
        have hlt2 : m < 2 ^ j := by rw [hj32, ← pB_two]; exact lt_pB (by rw [HLe.out]; omega)
        have hall : ∀ i, m / 2 ^ i % 2 = 0 := fun i => by
          by_cases e : i < j
          · exact hz.out i e
          · rw [Nat.div_eq_of_lt (Nat.lt_of_lt_of_le hlt2 (p2_le (by omega)))]
        have h1 := hv_of_bits (m := m) (k := j) (j := j) (Nat.le_refl _) (fun i _ => hall i) (fun h => by omega)
        have h2 := hv_div_pos (m := m) (k := j) HM.out
        rw [h1, Nat.div_eq_of_lt hlt2] at h2
        exact h2 rfl
      · have hjk3 := hjk
        clear hjk3
        have hjv : hv m k = j := hv_of_bits hjk (fun i hi => hz.out i hi) (fun h => by omega)
        have HJ := Lib.hid hjv
        have hx0 : m / 2 ^ j ≠ 0 := by rw [← hjv]; exact hv_div_pos HM.out
        have hkj : k - j ≤ 65536 := by rw [← hjv]; exact HK.out
        obtain ⟨t, ht⟩ : ∃ t, k - j = t := ⟨_, rfl⟩
        have et : (k : Int) - (j : Int) = (t : Int) := by omega
        have ht6 : t ≤ 65536 := by omega
        have HE : Hid (mkD neg m k = ⟨neg, m / 2 ^ j, t⟩) := by
          show _ = _
          rw [mkD_halves HM.out HK.out, hjv, ht]
        obtain ⟨x, hxe⟩ : ∃ x, m / 2 ^ j = x := ⟨_, rfl⟩
        rw [hxe] at hx0 HE
        have hlx : len x ≤ L := by rw [← hxe, ← HLe.out]; exact len_mono (Nat.div_le_self _ _)
        have h0 : len x ≠ 0 := fun e => hx0 (len_eq_zero.1 e)
        have hl0 : ((len x : Int) == 0) = false := by simp; omega
        have HX := Lib.hid hxe
        clear hjv hxe ht hz hkj
        go_wp2_with (first
          | (go_at_call 32; (with_reducible refine (hright.out j (by omega)).mono ?_); rintro e w2 ⟨A1, c1, rfl, hon, hx⟩; rw [HX.out] at hon ⊢; have HON := Lib.hid hon; have HXT := Lib.hid hx; clear hon hx; obtain ⟨g1, rfl⟩ := on_some HON.out h0; have HN := Lib.hid (news_rd HON.out.rd 86); obtain ⟨hc, hf⟩ := HXT.out.old; have k0 : w2.frozen? ⟨w.heap.size, 0, none⟩ = false := (hf _ _ (by simp)).trans (by go_simp); have k1 : w2.frozen? ⟨w.heap.size, 1, none⟩ = false := (hf _ _ (by simp)).trans (by go_simp); have k2 : w2.frozen? ⟨w.heap.size, 2, none⟩ = false := (hf _ _ (by simp)).trans (by go_simp); have hws : w.heap.size < w2.heap.size := (SB.out.ext HXT.out).lt; clear hc hf)
          | (at_builtin; refine wpList_append_own _ rfl _ _ _ rfl w2.heap.size 86 i0 _ 1 4 Tryd.underlying35 hi0 hz0 hz1 hz2 rfl (by omega) (.slice (some ⟨w2.heap.size, 0, none⟩) 0 0) 0 [] rfl (World.ownsRow_made w2 #[] 0 (Nat.le_refl _) (Nat.zero_le _) rfl) _ (len x) c1 (wl (dg x) (len x)) rfl (by rw [wl_len]; omega) HN.out (by intro u hu; unfold wl at hu; simp at hu; obtain ⟨_, _, rfl⟩ := hu; rfl) (by unfold maxLen; omega) (by omega) (by simp) ?_; intro v1 w3 hown1 hg1 _; rw [Nat.zero_add, List.nil_append] at hown1; obtain ⟨A', c', rfl⟩ := slice_of_owns hown1; have HX3 : Hid (Ext w2 w3) := Below.grown (Ext.alloc w2 _) hg1 (by simp) (fun k hk => by simp [Value.ownBlock] at hk; omega); have HO3 : Hid (On w3 w2.heap.size A' (len x) c' (dg x)) := hown1; clear hown1 hg1; have m0 := (HX3.out.old.2 w.heap.size 0 hws).trans k0; have m1 := (HX3.out.old.2 w.heap.size 1 hws).trans k1; have m2 := (HX3.out.old.2 w.heap.size 2 hws).trans k2; obtain ⟨z0, z1, z2⟩ := (SB.out.ext HXT.out).ext HX3.out))
        have hsz := HX3.out.size
        exact bodyPost_ret (v := dv neg A' (len x) c' t) (by simp [results, Tryd.results31, go_sem, z0, z1, z2]) rfl (DyRes.of (b := w2.heap.size) HE.out (by repeat (first | exact HO3.out | refine On.set ?_ (by omega) _ _)) (by omega) (by repeat (first | exact ((Ext.alloc _ _).trans HXT.out).trans HX3.out | refine Ext.set ?_ (Nat.le_refl _) _)))
end

/-! ### Refg -/
section
open Go.RowKit

set_option maxRecDepth 100000 in
set_option maxHeartbeats 1000000 in
theorem rnumber_zero (neg : Bool) (A : Option Addr) (n c k : Nat) (f : Nat → Nat) (w : World) (ha : Rd w A n f) (oa : SlOk A n c) (hb : ∀ i, i < n → f i < 4294967296) (hv' : valN f n = 0) (hk : k ≤ 65536) :
    Calls Tryd.prog 31 #[.bool neg, .slice A n c, I k] w (DyRes DV.zero w) := by
  have HA := Lib.hid (ha.ext (Ext.alloc w (.cells #[.bool false, .slice none 0 0, I 0] 37))); clear ha
  have HB := Lib.hid hb; clear hb
  obtain ⟨o1, o2, _⟩ := oa
  have HV := Lib.hid hv'; clear hv'
  have hz : Hid (len (0 / 2 ^ 0) = 0) := by show _ = _; rw [Nat.zero_div, len_zero]
  have hright : Hid (Calls Tryd.prog 32 #[.slice A 0 c, I 0] (w.alloc (.cells #[.bool false, .slice none 0 0, I 0] 37)) (RightRes 0 0 (w.alloc (.cells #[.bool false, .slice none 0 0, I 0] 37)))) := by
    have := rright_any A 0 0 c (w.alloc (.cells #[.bool false, .slice none 0 0, I 0] 37)) (by rw [len_zero]; exact Rd.none_) (by rw [len_zero]; decide) (by decide)
    rw [len_zero] at this
    exact this
  go_enter Tryd.func31, Tryd.ntmps31
  go_wp2_with (go_at_call 49; refine (rtrim_any A n c f _ HA.out HB.out o1 o2).mono ?_; rw [HV.out, len_zero]; rintro e w4 ⟨rfl, rfl⟩)
  go_loopw [7] (fun si wr => w.alloc (.cells #[.bool false, .slice none 0 0, I 0] 37) = wr ∧ si = I 0) (fun _ _ => 0)
  case atStart => exact ⟨rfl, rfl⟩
  case round =>
    obtain ⟨rfl, rfl⟩ := hrel
    by_cases hk0 : k = 0
    · subst hk0
      go_wp2_with (go_at_call 32; (with_reducible refine hright.out.mono ?_); rintro e w2 ⟨A1, c1, rfl, hon, hx⟩; rw [hz.out] at *; have HXT := Lib.hid hx; clear hon hx; obtain ⟨hc, hf⟩ := HXT.out.old; have hws : w.heap.size < (w.alloc (.cells #[.bool false, .slice none 0 0, I 0] 37)).heap.size := by simp)
      exact bodyPost_ret (v := dv false none 0 0 0) (by simp [results, Tryd.results31, go_sem, hc]) rfl (DyRes.zero (by repeat (first | exact (Ext.alloc _ _).trans HXT.out | refine Ext.set ?_ (Nat.le_refl _) _)))
    · have hk1 : (0 : Int) < (k : Int) := by omega
      go_wp2_with (go_at_call 32; (with_reducible refine hright.out.mono ?_); rintro e w2 ⟨A1, c1, rfl, hon, hx⟩; rw [hz.out] at *; have HXT := Lib.hid hx; clear hon hx; obtain ⟨hc, hf⟩ := HXT.out.old; have hws : w.heap.size < (w.alloc (.cells #[.bool false, .slice none 0 0, I 0] 37)).heap.size := by simp)
      exact bodyPost_ret (v := dv false none 0 0 0) (by simp [results, Tryd.results31, go_sem, hc]) rfl (DyRes.zero (by repeat (first | exact (Ext.alloc _ _).trans HXT.out | refine Ext.set ?_ (Nat.le_refl _) _)))

theorem rnumber_le (neg : Bool) (A : Option Addr) (n c k m : Nat) (f : Nat → Nat) (w : World) (ha : Rd w A n f) (oa : SlOk A n c) (hb : ∀ i, i < n → f i < 4294967296) (hv' : valN f n = m) (hn : n ≤ 33554432) (hk : k ≤ 65536) :
    Calls Tryd.prog 31 #[.bool neg, .slice A n c, I k] w (DyRes (mkD neg m k) w) := by
  by_cases hm : m = 0
  · subst hm
    rw [mkD_small hk, nrm_zero]
    exact rnumber_zero neg A n c k f w ha oa hb hv' hk
  · exact rnumber_fine neg A n c k m f w ha oa hb hv' hn (by omega) hm (by omega)
theorem rnumber_at (neg : Bool) (A : Option Addr) (c k m : Nat) (w : World) (ha : Rd w A (len m) (dg m)) (oa : SlOk A (len m) c) (hn : len m ≤ 33554432) (hk : k ≤ 65536) :
    Calls Tryd.prog 31 #[.bool neg, .slice A (len m) c, I k] w (DyRes (mkD neg m k) w) :=
  rnumber_le neg A (len m) c k m (dg m) w ha oa (fun i _ => dg_lt m i) (valN_dg_all (Nat.le_refl _)) hn hk
end
end

end Go.Proofs.YtkocmdpfknoiaaaDoor
