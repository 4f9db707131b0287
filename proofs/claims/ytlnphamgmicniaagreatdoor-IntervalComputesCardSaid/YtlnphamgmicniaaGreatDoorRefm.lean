/- The reference's products. -/
import Derived.Test.YtlnphamgmicniaaGreatDoorRefn
import Derived.Test.YtlnphamgmicniaaGreatDoorMdyf
import Derived.Deep.DeepCutAuto
import Derived.Deep.DrawnRows
namespace Go.Proofs.YtlnphamgmicniaaGreatDoor
open Go.RowKit
attribute [local go_sem ↓] Go.wp_at_zero Go.wp_at_succ

set_option maxRecDepth 100000 in
set_option maxHeartbeats 4000000 in
theorem rmul_any {w : World} {na nb : Bool} {A A' B B' : Option Addr} {n c c' k e e' : Nat} {da db : Int} {a b : DV} (ha : Dy w na A n c da a A' c') (hb' : Dy w nb B k e db b B' e') :
    Calls Tryz.prog 85 #[dv na A n c da, dv nb B k e db] w (DyRes (mulD a b) w) := by
  have HA := Lib.hid ha; have HB := Lib.hid hb'; clear ha hb'
  have a1 := HA.out.wf.2.1
  have b1 := HB.out.wf.2.1
  have a2 := HA.out.lim
  have b2 := HB.out.lim
  obtain ⟨d', hd'⟩ : ∃ d', mulD a b = d' := ⟨_, rfl⟩
  rw [hd']
  obtain ⟨sd, hsd⟩ : ∃ sd, a.den + b.den = sd := ⟨_, rfl⟩
  have ew : IntKind.i64.wrap ((a.den : Int) + b.den) = (sd : Int) := by rw [IntWalk.i64_in _ (by omega)]; omega
  have hsd2 : sd ≤ 131072 := by omega
  obtain ⟨P, hP⟩ : ∃ P, a.m * b.m = P := ⟨_, rfl⟩
  have hPl : len P ≤ 33554432 := by have := len_mul a.m b.m; rw [hP] at this; omega
  have HP := Lib.hid hP
  have HD' : Hid (mkD (!(a.neg == b.neg)) P sd = d') := by
    show _ = _
    rw [← hd', ← hsd, ← hP]; rfl
  clear hsd hP
  clear hd'
  go_enter Tryz.func85, Tryz.ntmps85
  go_upto_region 1 with fail
  obtain ⟨X0, X1, X2, XE⟩ := three_boxes w (.bool na) (.slice A n c) (I da) (.bool nb) (.slice B k e) (I db) (.bool false) (.slice none 0 0) (I 0) 25 25 25
  have HX0 := Lib.hid X0; have HX1 := Lib.hid X1; have HX2 := Lib.hid X2; have HXE := Lib.hid XE
  clear X0 X1 X2 XE
  go_cut [] (fun wx => Two w a b A' B' c' e' wx)
  case first =>
    go_region_with ((first | (go_at_call 94; refine (HA.out.norm _ (HXE.out.trans (by repeat (first | exact Ext.refl _ | assumption | refine Ext.trans ?_ (Ext.drew _) | refine Ext.trans ?_ (by assumption))))).mono ?_; rintro e wa ⟨rfl, hxa⟩; have ga0 := (HX0.out.ext (w' := wa) (by repeat (first | exact Ext.refl _ | assumption | refine Ext.trans ?_ (Ext.drew _) | refine Ext.trans ?_ (by assumption)))).2; have ga1 := (HX1.out.ext (w' := wa) (by repeat (first | exact Ext.refl _ | assumption | refine Ext.trans ?_ (Ext.drew _) | refine Ext.trans ?_ (by assumption)))).2; obtain ⟨ka0, ka1, ka2, ka3, ka4, ka5⟩ := keepB HX0.out HX1.out (w' := wa) (by repeat (first | exact Ext.refl _ | assumption | refine Ext.trans ?_ (Ext.drew _) | refine Ext.trans ?_ (by assumption)))) | (go_at_call 94; refine (HB.out.norm _ (HXE.out.trans (by repeat (first | exact Ext.refl _ | assumption | refine Ext.trans ?_ (Ext.drew _) | refine Ext.trans ?_ (by assumption))))).mono ?_; rintro e wb ⟨rfl, hxb⟩; have gb0 := (HX0.out.ext (w' := wb) (by repeat (first | exact Ext.refl _ | assumption | refine Ext.trans ?_ (Ext.drew _) | refine Ext.trans ?_ (by assumption)))).2; have gb1 := (HX1.out.ext (w' := wb) (by repeat (first | exact Ext.refl _ | assumption | refine Ext.trans ?_ (Ext.drew _) | refine Ext.trans ?_ (by assumption)))).2; obtain ⟨kb0, kb1, kb2, kb3, kb4, kb5⟩ := keepB HX0.out HX1.out (w' := wb) (by repeat (first | exact Ext.refl _ | assumption | refine Ext.trans ?_ (Ext.drew _) | refine Ext.trans ?_ (by assumption))))))
    all_goals
      go_wp2_with fail
      go_meet
      first
        | exact two_of HX0.out HX1.out HX2.out HXE.out (by repeat (first | exact Ext.refl _ | assumption | refine Ext.trans ?_ (Ext.drew _) | refine Ext.trans ?_ (by assumption)))
  case rest =>
    clear HX0 HX1 HX2 HXE
    obtain ⟨hE, X0, X1, X2⟩ := hcut
    have HX0 := Lib.hid X0; have HX1 := Lib.hid X1; have HX2 := Lib.hid X2; have HE := Lib.hid hE
    clear X0 X1 X2 hE
    obtain ⟨M, hM⟩ : ∃ M, a.m = M := ⟨_, rfl⟩
    obtain ⟨N, hN⟩ : ∃ N, b.m = N := ⟨_, rfl⟩
    have hA1 := HA.out.rd; have hB1 := HB.out.rd
    rw [hM] at hA1 HX0 HP a2
    rw [hN] at hB1 HX1 HP b2
    have HAR := Lib.hid hA1; have HBR := Lib.hid hB1
    clear hA1 hB1 hM hN
    obtain ⟨L, hLe⟩ : ∃ L, len M = L := ⟨_, rfl⟩
    obtain ⟨l, hle⟩ : ∃ l, len N = l := ⟨_, rfl⟩
    rw [hLe] at HX0 HAR a2
    rw [hle] at HX1 HBR b2
    have HLe := Lib.hid hLe; clear hLe
    have Hle := Lib.hid hle; clear hle
    obtain ⟨k0, k1, k2, k3, k4, k5⟩ := keepB HX0.out HX1.out (Ext.refl _)
    have l2 := HX2.out.lt
    obtain ⟨w1, hrun, hrow, hx⟩ := run_make_row wc (L + l) (by omega)
    rw [show ((L + l : Nat) : Int) = (L : Int) + (l : Int) by omega] at hrun
    have hR0 := Lib.hid hrow
    have hX0 := Lib.hid hx
    clear hrow hx
    obtain ⟨m0, m1, m2, m3, m4, m5⟩ := keepB HX0.out HX1.out hX0.out
    go_wp2
    clear hrun k0 k1 k2 k3 k4 k5 m0 m1 m2 m3 m4 m5
    go_loopw [26] (fun si wr => ∃ (i : Nat) (F : Nat → Nat), i ≤ L ∧ si = I i ∧ Hid (Row wr wc.heap.size wc.heap.size (L + l) (L + l) F) ∧ Hid (Ext wc wr) ∧ Hid (∀ j, i + l ≤ j → F j = 0) ∧ Hid (∀ j, j < L + l → F j < 4294967296) ∧ Hid (valN F (i + l) = M % pB i * N)) (fun si _ => L - (intOf si).toNat)
    case atStart => exact ⟨0, _, Nat.zero_le _, rfl, hR0, hX0, (fun _ _ => rfl), (fun _ _ => by show (0:Nat) < _; decide), by show _ = _; rw [valN_zeros (f := fun _ => 0) (t := 0) (Nat.zero_le _) (fun _ _ _ => rfl)]; simp [valN, pB_zero, Nat.mod_one]⟩
    case round =>
      clear hR0 hX0
      obtain ⟨i, F, hi, rfl, hR, hX, hZ, hB, hv⟩ := hrel
      obtain ⟨k0, k1, k2, k3, k4, k5⟩ := keepB HX0.out HX1.out hX.out
      by_cases hlt : i < L
      · obtain ⟨b2, o2, rfl, hb2, c2⟩ := (HAR.out.ext (HE.out.trans hX.out)).at_ hlt
        have hxl := dg_lt M i
        obtain ⟨x, hxe⟩ : ∃ x, dg M i = x := ⟨_, rfl⟩
        rw [hxe] at c2 hxl
        have HX := Lib.hid hxe; clear hxe
        go_wp2
        clear c2 hb2 k0 k1 k2 k3 k4 k5
        go_loopw [8, 34] (fun sc sj wq => ∃ (j c : Nat) (G : Nat → Nat), j ≤ l ∧ sj = I j ∧ sc = U8 c ∧ c < 4294967296 ∧ Hid (Row wq wc.heap.size wc.heap.size (L + l) (L + l) G) ∧ Hid (Ext wc wq) ∧ Hid (∀ k, i + j ≤ k → G k = F k) ∧ Hid (∀ j, j < L + l → G j < 4294967296) ∧ Hid (valN G (i + j) + c * pB (i + j) = valN F (i + j) + x * (N % pB j) * pB i)) (fun _ sj _ => l - (intOf sj).toNat)
        case atStart => exact ⟨0, 0, F, Nat.zero_le _, rfl, rfl, by omega, hR, hX, (fun _ _ => rfl), hB.out, by show _ = _; simp [pB_zero, Nat.mod_one]⟩
        case round =>
          clear hR hX hB
          obtain ⟨j, c, G, hj, rfl, rfl, hc, hR, hX, hK, hB, hw⟩ := hrel
          obtain ⟨k0, k1, k2, k3, k4, k5⟩ := keepB HX0.out HX1.out hX.out
          by_cases hlt2 : j < l
          · obtain ⟨b3, o3, rfl, hb3, c3⟩ := (HBR.out.ext (HE.out.trans hX.out)).at_ hlt2
            have c1 := hR.out.cell (k := i + j) (by omega)
            have f1 := hR.out.frozen (i + j)
            have hzl := hB.out (i + j) (by omega)
            have hyl := dg_lt N j
            obtain ⟨z, hze⟩ : ∃ z, G (i + j) = z := ⟨_, rfl⟩
            have hzF : Hid (F (i + j) = z) := by rw [← hze]; exact (hK.out _ (Nat.le_refl _)).symm
            rw [hze] at c1 hzl
            clear hze
            obtain ⟨y, hye⟩ : ∃ y, dg N j = y := ⟨_, rfl⟩
            rw [hye] at c3 hyl
            obtain ⟨t, ht⟩ : ∃ t, c + (x * y + z) = t := ⟨_, rfl⟩
            obtain ⟨t1, t2, t3, t4⟩ := mul_carry hxl hyl hzl hc ht
            have hs := mul_step hw.out hye ht
            obtain ⟨p, hp⟩ : ∃ p, x * y = p := ⟨_, rfl⟩
            rw [hp] at ht t3 t4
            have e1 : (x : Int) * (y : Int) = (p : Int) := by rw [← hp]; simp
            have e2 : (c : Int) + ((p : Int) + (z : Int)) = (t : Int) := by omega
            obtain ⟨lo, hlo⟩ : ∃ lo, t % 4294967296 = lo := ⟨_, rfl⟩
            obtain ⟨hi', hhi⟩ : ∃ hi', t / 4294967296 = hi' := ⟨_, rfl⟩
            have e3 : (t : Int) % 4294967296 = (lo : Int) := by omega
            have e4 : (t : Int) / 4294967296 = (hi' : Int) := by omega
            rw [hlo, hhi] at hs
            rw [hhi] at t2
            have hlob : lo < 4294967296 := by omega
            have HS := Lib.hid hs
            clear hs hp ht hlo hhi hw hye
            go_wp2
            go_roundw
            case rel =>
              refine ⟨j + 1, hi', upd G (i + j) lo, by omega, by go_num, rfl, t2, Row.set hR.out _ _, Ext.set hX.out (Nat.le_refl _) _, ?_, upd_lt hB.out hlob, ?_⟩
              · exact fun k hk => by rw [upd_ne _ (by omega)]; exact hK.out k (by omega)
              · show _ = _
                rw [show i + (j + 1) = i + j + 1 by omega, valN_upd, valN, hzF.out]
                exact HS.out
            case measure => simp [intOf]; omega
          · obtain rfl : j = l := by omega
            have c1 := hR.out.cell (k := i + j) (by omega)
            have f1 := hR.out.frozen (i + j)
            have ho := Lib.hid (mul_outer (c := c) Hle.out hv.out (by rw [HX.out]; exact hw.out))
            clear hw
            have e3 : (c : Int) % 4294967296 = (c : Int) := by omega
            go_wp2
            go_roundw
            case rel =>
              refine ⟨i + 1, upd G (i + j) c, by omega, by go_num, Row.set hR.out _ _, Ext.set hX.out (Nat.le_refl _) _, ?_, upd_lt hB.out hc, ?_⟩
              · exact fun k hk => by rw [upd_ne _ (by omega), hK.out k (by omega)]; exact hZ.out k (by omega)
              · show _ = _
                rw [show i + 1 + j = i + j + 1 by omega, valN_upd]
                exact ho.out
            case measure => simp [intOf]; omega
      · obtain rfl : i = L := by omega
        have hE : Hid (valN F (i + l) = M * N) := by
          show _ = _
          rw [hv.out, Nat.mod_eq_of_lt (lt_pB (by rw [HLe.out]; omega))]
        clear hv
        have HV : Hid (valN F (i + l) = P) := by show _ = _; rw [← HP.out]; exact hE.out
        have gz := (HX2.out.ext hX.out).2
        have hSO : SlOk (some ⟨wc.heap.size, 0, none⟩) (i + l) (i + l) := ⟨Nat.le_refl _, hR.out.cap.2, fun h => by cases h⟩
        go_wp2_with (go_at_call 123; go_loud (with_reducible refine (rnumber_any (!(a.neg == b.neg)) _ _ _ sd P F _ hR.out.rd hSO hB.out HV.out (by omega) (by omega)).mono ?_); rw [HD'.out]; rintro e w2 ⟨A2, c2, rfl, hon2, hx2⟩; obtain ⟨r0, r1, r2⟩ := ((HX2.out.ext hX.out).ext hx2).1; have gz2 := ((HX2.out.ext hX.out).ext hx2).2)
        all_goals
          have HO := Lib.hid hon2
          have HF := Lib.hid ((HE.out.trans hX.out).trans hx2)
          have hsz0 := (HX2.out.ext hX.out).lt
          exact bodyPost_ret (v := dv d'.neg A2 (len d'.m) c2 d'.den) (by simp [results, Tryz.results85, go_sem, r0, r1, r2]) rfl (DyRes.end3 rfl HO.out HF.out (by omega) (by omega) hsz0)

end Go.Proofs.YtlnphamgmicniaaGreatDoor
