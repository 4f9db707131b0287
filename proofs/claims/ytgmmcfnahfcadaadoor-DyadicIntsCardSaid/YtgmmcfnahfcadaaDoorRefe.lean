/- The reference's functions on absolute values, part 5: right. -/
import Derived.Test.YtgmmcfnahfcadaaDoorRefd
namespace Go.Proofs.YtgmmcfnahfcadaaDoor
open Go.RowKit

def RightRes (m n : Nat) (w : World) (e : Ending) (w' : World) : Prop := ∃ A c, e = .returned (.tuple #[.slice A (len (m / 2 ^ n)) c, .bool (decide (m % 2 ^ n ≠ 0))]) ∧ On w' w.heap.size A (len (m / 2 ^ n)) c (dg (m / 2 ^ n)) ∧ Ext w w'

theorem cut_step (m i : Nat) : m % 2 ^ (i + 1) = m % 2 ^ i + m / 2 ^ i % 2 * 2 ^ i := by
  rw [Nat.pow_succ, Nat.mod_mul, Nat.mul_comm]
theorem cut_some {m i : Nat} (h : m % 2 ^ i ≠ 0) : decide (m % 2 ^ (i + 1) ≠ 0) = true := by
  rw [cut_step]; exact decide_eq_true (by omega)
theorem cut_none {m i : Nat} (h : m % 2 ^ i = 0) : decide (m % 2 ^ (i + 1) ≠ 0) = decide (m / 2 ^ i % 2 = 1) := by
  have hp := p2_pos i
  rw [cut_step, h, Nat.zero_add]
  rcases Nat.mod_two_eq_zero_or_one (m / 2 ^ i) with e | e
  · rw [e]; simp
  · rw [e]; simp
theorem right_end {w w' : World} {m n k c : Nat} {A : Option Addr} {f : Nat → Nat} {cb : Bool} {e : Ending} (hO : On w' w.heap.size A k c f) (hb : ∀ i, i < k → f i < 4294967296) (hv : valN f k = m / 2 ^ n) (hc : cb = decide (m % 2 ^ n ≠ 0))
    (he : e = .returned (.tuple #[.slice A (len (valN f k)) c, .bool cb])) (hx : Ext w w') : RightRes m n w e w' := by
  obtain ⟨A', c', h1, h2, h3⟩ := natRes_on (e := .returned (.slice A (len (valN f k)) c)) hO hb hv rfl hx
  rw [hv] at h1 he
  cases h1
  exact ⟨A, c, by rw [he, hc], h2, h3⟩

set_option maxRecDepth 100000 in
set_option maxHeartbeats 1000000 in
theorem rright_any (A : Option Addr) (m n ca : Nat) (w : World) (ha : Rd w A (len m) (dg m)) (hL : len m ≤ 33554432) (hn : n ≤ 1073741824) :
    Calls Tryd.prog 87 #[.slice A (len m) ca, I n] w (RightRes m n w) := by
  have HA := Lib.hid ha; clear ha
  obtain ⟨L, hLe⟩ : ∃ L, len m = L := ⟨_, rfl⟩
  rw [hLe] at hL HA ⊢
  have HLe := Lib.hid hLe; clear hLe
  obtain ⟨q, hq'⟩ : ∃ q, n / 32 = q := ⟨_, rfl⟩
  obtain ⟨r, hr'⟩ : ∃ r, n % 32 = r := ⟨_, rfl⟩
  have hr32 : r < 32 := by omega
  have hqn : q ≤ n := by omega
  have hq : (n : Int) / 32 = (q : Int) := by omega
  have hr : (n : Int) % 32 = (r : Int) := by omega
  have HQ := Lib.hid hq'; clear hq'
  have HR := Lib.hid hr'; clear hr'
  go_enter Tryd.func87, Tryd.ntmps87
  go_wp2
  go_loopw [6, 7] (fun sc si wr => w = wr ∧ ∃ (i : Nat) (cb : Bool), i ≤ n ∧ i ≤ 32 * L ∧ si = I i ∧ sc = .bool cb ∧ Hid (cb = decide (m % 2 ^ i ≠ 0))) (fun _ si _ => n - (intOf si).toNat)
  case atStart => exact ⟨rfl, 0, false, Nat.zero_le _, Nat.zero_le _, rfl, rfl, by show _ = _; simp [Nat.mod_one]⟩
  case round =>
    obtain ⟨rfl, i, cb, hin, hiL, rfl, rfl, hcb⟩ := hrel
    by_cases hlt : i < n ∧ i < 32 * L
    · obtain ⟨l1, l2⟩ := hlt
      have i2 : (i : Int) < 32 * (L : Int) := by omega
      by_cases hc0 : m % 2 ^ i = 0
      · have hcn := cut_none hc0
        obtain rfl : cb = false := by rw [hcb.out]; simp [hc0]
        obtain ⟨a, hae⟩ : ∃ a, i / 32 = a := ⟨_, rfl⟩
        obtain ⟨s, hse⟩ : ∃ s, i % 32 = s := ⟨_, rfl⟩
        have haL : a < L := by omega
        have ea : (i : Int) / 32 = (a : Int) := by omega
        have es : (i : Int) % 32 = (s : Int) := by omega
        have hs32 : s < 32 := by omega
        have hbit := bit_dg m i
        rw [hae, hse] at hbit
        obtain ⟨b2, o2, rfl, hb2, c2⟩ := HA.out.at_ haL
        have hxl := dg_lt m a
        obtain ⟨x, hxe⟩ : ∃ x, dg m a = x := ⟨_, rfl⟩
        rw [hxe] at c2 hxl hbit
        clear hxe
        obtain ⟨v, hv⟩ : ∃ v, x / 2 ^ s = v := ⟨_, rfl⟩
        have ev : (x : Int) / 2 ^ s = (v : Int) := by rw [← hv]; simp
        have hvb : v < 4294967296 := by rw [← hv]; exact Nat.lt_of_le_of_lt (Nat.div_le_self _ _) hxl
        have eb := and_one32 hvb
        rw [hv] at hbit
        rw [hbit] at eb
        have hd2 : m / 2 ^ i % 2 < 2 := Nat.mod_lt _ (by decide)
        obtain ⟨d, hd⟩ : ∃ d, m / 2 ^ i % 2 = d := ⟨_, rfl⟩
        rw [hd] at eb hcn hd2
        have HC := Lib.hid hcn
        clear hbit hd hcn hv hc0 hcb
        have i1 : (0 : Int) ≤ (a : Int) := by omega
        go_wp2
        go_roundw
        case rel =>
          refine ⟨trivial, i + 1, decide (d = 1), by omega, by omega, by go_num, ?_, HC.out.symm⟩
          rcases (show d = 0 ∨ d = 1 by omega) with rfl | rfl
          · rfl
          · rfl
        case measure => simp [intOf]; omega
      · have hcn := Lib.hid (cut_some hc0)
        obtain rfl : cb = true := by rw [hcb.out]; simp [hc0]
        clear hcb hc0
        go_wp2
        go_roundw
        case rel => exact ⟨trivial, i + 1, true, by omega, by omega, by go_num, rfl, hcn.out.symm⟩
        case measure => simp [intOf]; omega
    · by_cases hge : 32 * L ≤ n
      · have hi : i = 32 * L := by omega
        have hm : m < 2 ^ i := by rw [hi, ← pB_two]; exact lt_pB (by rw [HLe.out]; omega)
        have hm2 : m < 2 ^ n := Nat.lt_of_lt_of_le hm (p2_le hin)
        have hE : Hid (cb = decide (m % 2 ^ n ≠ 0)) := by
          show _ = _
          rw [hcb.out, Nat.mod_eq_of_lt hm, Nat.mod_eq_of_lt hm2]
        have hZ : Hid (m / 2 ^ n = 0) := Nat.div_eq_of_lt hm2
        have i2 : ¬ (i : Int) < 32 * (L : Int) := by omega
        have i3 : 32 * (L : Int) ≤ (n : Int) := by omega
        clear hcb hm hm2
        go_wp2
        all_goals
          go_ret2
          exact right_end (k := 0) (f := fun _ => 0) (On.nil _ _ _) (fun j hj => by omega) hZ.out.symm hE.out (by rw [show valN (fun _ => 0) 0 = 0 from rfl, len_zero]; rfl) (Ext.refl _)
      · have hi : i = n := by omega
        subst hi
        have hE := hcb
        clear hcb
        have hql : q < L := by have := HQ.out; omega
        have hl : len (m / 2 ^ i) ≤ L - q := by
          rw [two_pow_split, ← Nat.div_div_eq_div_mul, HQ.out]
          have := len_mono (Nat.div_le_self (m / pB q) (2 ^ (i % 32)))
          rw [len_div, HLe.out] at this
          exact this
        obtain ⟨K, hK'⟩ : ∃ K, L - q = K := ⟨_, rfl⟩
        rw [hK'] at hl
        have HL := Lib.hid hl; clear hl
        have i3 : ¬ 32 * (L : Int) ≤ (i : Int) := by omega
        go_wp2
        go_loopw [8, 9] (fun so sj wr => ∃ (j : Nat) (Ao : Option Addr) (co : Nat) (F : Nat → Nat), j ≤ K ∧ sj = I (q + j : Nat) ∧ so = .slice Ao j co ∧ Hid (On wr w.heap.size Ao j co F) ∧ Hid (Ext w wr) ∧ Hid (∀ t, t < j → F t = dg (m / 2 ^ i) t)) (fun _ sj _ => L - (intOf sj).toNat)
        case atStart => exact ⟨0, none, 0, fun _ => 0, Nat.zero_le _, by simp, rfl, On.nil _ _ _, Ext.refl _, fun t ht => by omega⟩
        case round =>
          obtain ⟨j, Ao, co, F, hj, rfl, rfl, hO, hX, hF⟩ := hrel
          by_cases hlt2 : j < K
          · have hdg := dg_shr m i j
            rw [HQ.out, HR.out] at hdg
            have hjL : q + j < L := by omega
            obtain ⟨b2, o2, rfl, hb2, c2⟩ := (HA.out.ext hX.out).at_ hjL
            have hxl := dg_lt m (q + j)
            obtain ⟨x, hxe⟩ : ∃ x, dg m (q + j) = x := ⟨_, rfl⟩
            rw [hxe] at c2 hxl hdg
            clear hxe
            obtain ⟨z, hz⟩ : ∃ z, dg (m / 2 ^ i) j = z := ⟨_, rfl⟩
            rw [hz] at hdg
            have hzb : z < 4294967296 := by rw [← hz]; exact dg_lt _ _
            have HZ := Lib.hid hz; clear hz
            by_cases hlast : q + j + 1 < L
            · have c3 : wr.cell? ⟨b2, o2 + (q + j + 1), none⟩ = some (U4 (dg m (q + j + 1))) := by
                obtain ⟨b3, o3, e3, _, c3⟩ := (HA.out.ext hX.out).at_ hlast
                cases e3; exact c3
              have hyl := dg_lt m (q + j + 1)
              obtain ⟨y, hye⟩ : ∃ y, dg m (q + j + 1) = y := ⟨_, rfl⟩
              rw [hye] at c3 hyl hdg
              clear hye
              have hor := or_add (a := x) (b := y) (p := 32) hxl
              obtain ⟨t, ht⟩ : ∃ t, x + y * 4294967296 = t := ⟨_, rfl⟩
              have e1 : bits BinOp.or IntKind.u64 (x : Int) ((y : Int) * 4294967296) = (t : Int) := by
                rw [show (y : Int) * 4294967296 = ((y * 4294967296 : Nat) : Int) by omega, or_nat64 (by omega) (by omega)]
                rw [show y * 4294967296 = y * 2 ^ 32 from rfl, hor]
                exact congrArg _ ht
              have htb : t < 18446744073709551616 := by omega
              rw [ht] at hdg
              obtain ⟨v, hv⟩ : ∃ v, t / 2 ^ r = v := ⟨_, rfl⟩
              have ev : (t : Int) / 2 ^ r = (v : Int) := by rw [← hv]; simp
              have hvb : v < 18446744073709551616 := by rw [← hv]; exact Nat.lt_of_le_of_lt (Nat.div_le_self _ _) htb
              rw [hv] at hdg
              have e5 : (v : Int) % 4294967296 = (z : Int) := by omega
              clear hdg hv hor ht
              go_wp2_with (at_builtin; refine app1 rfl _ _ rfl w.heap.size Ao j co F (by rfl) (hO.out.ext (Ext.alloc _ _)) _ 1 z (by rfl) (by go_simp <;> omega) (by omega) (by have := hX.out.size; simp; omega) ?_; intro g cap w2 hrow hg hat hlt3; have HRW := Lib.hid hrow; have HX2 : Hid (Ext w w2) := ext_app (hX.out.trans (Ext.alloc _ _)) (hO.out.ext (Ext.alloc _ _)) hg; clear hrow hg hat hlt3)
              go_roundw
              case rel =>
                refine ⟨j + 1, some ⟨g, 0, none⟩, cap, upd F j z, by omega, by go_num, rfl, HRW.out.on, HX2, ?_⟩
                exact fun t ht => by
                  by_cases e : t = j
                  · subst e; rw [upd_same, HZ.out]
                  · rw [upd_ne _ e]; exact hF.out t (by omega)
              case measure => simp [intOf]; omega
            · have hlast2 : q + j + 1 = L := by omega
              rw [dg_high (m := m) (i := q + j + 1) (by rw [HLe.out]; omega), Nat.zero_mul, Nat.add_zero] at hdg
              obtain ⟨v, hv⟩ : ∃ v, x / 2 ^ r = v := ⟨_, rfl⟩
              have ev : (x : Int) / 2 ^ r = (v : Int) := by rw [← hv]; simp
              have hvb : v < 4294967296 := by rw [← hv]; exact Nat.lt_of_le_of_lt (Nat.div_le_self _ _) hxl
              rw [hv] at hdg
              have e5 : (v : Int) % 4294967296 = (z : Int) := by omega
              clear hdg hv
              go_wp2_with (at_builtin; refine app1 rfl _ _ rfl w.heap.size Ao j co F (by rfl) (hO.out.ext (Ext.alloc _ _)) _ 1 z (by rfl) (by go_simp <;> omega) (by omega) (by have := hX.out.size; simp; omega) ?_; intro g cap w2 hrow hg hat hlt3; have HRW := Lib.hid hrow; have HX2 : Hid (Ext w w2) := ext_app (hX.out.trans (Ext.alloc _ _)) (hO.out.ext (Ext.alloc _ _)) hg; clear hrow hg hat hlt3)
              go_roundw
              case rel =>
                refine ⟨j + 1, some ⟨g, 0, none⟩, cap, upd F j z, by omega, by go_num, rfl, HRW.out.on, HX2, ?_⟩
                exact fun t ht => by
                  by_cases e : t = j
                  · subst e; rw [upd_same, HZ.out]
                  · rw [upd_ne _ e]; exact hF.out t (by omega)
              case measure => simp [intOf]; omega
          · obtain rfl : j = K := by omega
            have hV : Hid (valN F j = m / 2 ^ i) := by
              show _ = _
              rw [valN_congr hF.out, valN_dg_all HL.out]
            have hB : Hid (∀ t, t < j → F t < 4294967296) := fun t ht => by rw [hF.out t ht]; exact dg_lt _ _
            have hjl : ¬ q + j < L := by omega
            go_wp2_with (go_at_call 116; refine (rtrim_any _ _ _ _ _ hO.out.rd hB.out hO.out.ok.1 hO.out.ok.2.1).mono ?_; rintro e w4 ⟨rfl, rfl⟩)
            go_ret2
            exact right_end hO.out hB.out hV.out hE.out rfl hX.out

end Go.Proofs.YtgmmcfnahfcadaaDoor
