/- The reference's Quo. -/
import Derived.Test.YtimpgdkeiopboaaDoorRdv
import Derived.Test.YtimpgdkeiopboaaDoorDyn
import Derived.Test.YtimpgdkeiopboaaDoorFlr
import Derived.Deep.RegionHeld3
import Derived.Deep.DrawnRows
import Derived.Deep.DeepCutAuto
namespace Go.Proofs.YtimpgdkeiopboaaDoor
open Go.RowKit
attribute [local go_sem ↓] Go.wp_at_zero Go.wp_at_succ

theorem quoD_parts {a b : DV} {k : Nat} : quoD a b k = mkD (a.neg != b.neg) (a.m * 2 ^ (k + b.den) / (b.m * 2 ^ a.den) + if (a.neg != b.neg) && decide (a.m * 2 ^ (k + b.den) % (b.m * 2 ^ a.den) ≠ 0) then 1 else 0) k := rfl
set_option maxRecDepth 100000 in
set_option maxHeartbeats 1000000 in
theorem rquo_err {w : World} {na nb : Bool} {A B : Option Addr} {n c k e : Nat} {da db : Int} (s : Int) (hs : s < 0 ∨ 65536 < s) : Calls Tryd.prog 7 #[dv na A n c da, dv nb B k e db, I s] w fun e w' => e = .returned (.tuple #[dv false none 0 0 0, I 3]) ∧ Ext w w' := by
  have h : s < 0 ∨ (¬ s < 0 ∧ 65536 < s) := by omega
  clear hs
  rcases h with h | ⟨h, h2⟩
  all_goals
    go_enter Tryd.func7, Tryd.ntmps7
    go_wp2_with fail
    exact bodyPost_ret (v := .tuple #[dv false none 0 0 0, I 3]) (by simp [results, Tryd.results7, go_sem]) rfl ⟨rfl, by repeat (first | exact ((Ext.alloc _ _).trans (Ext.alloc _ _)).trans (Ext.alloc _ _) | refine Ext.set ?_ (by omega) _)⟩

set_option maxRecDepth 100000 in
set_option maxHeartbeats 1000000 in
theorem rquo_zero {w : World} {na nb : Bool} {A A' B B' : Option Addr} {n c c' k e e' : Nat} {da db : Int} {a b : DV} (g : Nat) (ha : Dy w na A n c da a A' c') (hb' : Dy w nb B k e db b B' e') (hg : g ≤ 65536) (hb0 : b.m = 0) :
    Calls Tryd.prog 7 #[dv na A n c da, dv nb B k e db, I g] w fun e w' => e = .returned (.tuple #[dv false none 0 0 0, I 8]) ∧ Ext w w' := by
  have HA := Lib.hid ha; have HB := Lib.hid hb'; clear ha hb'
  obtain ⟨X0, X1, X2, XE⟩ := three_boxes w (.bool na) (.slice A n c) (I da) (.bool nb) (.slice B k e) (I db) (.bool false) (.slice none 0 0) (I 0) 24 24 24
  have HX0 := Lib.hid X0; have HX1 := Lib.hid X1; have HX2 := Lib.hid X2; have HXE := Lib.hid XE
  clear X0 X1 X2 XE
  have hlb : Hid (len b.m = 0) := len_eq_zero.2 hb0
  clear hb0
  go_enter Tryd.func7, Tryd.ntmps7
  go_upto_region 3 with fail
  generalize (((w.alloc (.cells #[.bool na, .slice A n c, I da] 24)).alloc (.cells #[.bool nb, .slice B k e, I db] 24)).alloc (.cells #[.bool false, .slice none 0 0, I 0] 24)) = w0 at *
  obtain ⟨k0, k1, k2, k3, k4, k5⟩ := keepB HX0.out HX1.out (Ext.refl _)
  have y0 := HX0.out.2
  have y1 := HX1.out.2
  go_cut [] (fun wx => Two w a b A' B' c' e' wx)
  case first =>
    go_region_with ((first | (go_at_call 26; refine (HA.out.norm _ (HXE.out.trans (by repeat (first | exact Ext.refl _ | assumption | refine Ext.trans ?_ (Ext.drew _) | refine Ext.trans ?_ (by assumption))))).mono ?_; rintro e wa ⟨rfl, hxa⟩; have ga0 := (HX0.out.ext (w' := wa) (by repeat (first | exact Ext.refl _ | assumption | refine Ext.trans ?_ (Ext.drew _) | refine Ext.trans ?_ (by assumption)))).2; have ga1 := (HX1.out.ext (w' := wa) (by repeat (first | exact Ext.refl _ | assumption | refine Ext.trans ?_ (Ext.drew _) | refine Ext.trans ?_ (by assumption)))).2; obtain ⟨ka0, ka1, ka2, ka3, ka4, ka5⟩ := keepB HX0.out HX1.out (w' := wa) (by repeat (first | exact Ext.refl _ | assumption | refine Ext.trans ?_ (Ext.drew _) | refine Ext.trans ?_ (by assumption)))) | (go_at_call 26; refine (HB.out.norm _ (HXE.out.trans (by repeat (first | exact Ext.refl _ | assumption | refine Ext.trans ?_ (Ext.drew _) | refine Ext.trans ?_ (by assumption))))).mono ?_; rintro e wb ⟨rfl, hxb⟩; have gb0 := (HX0.out.ext (w' := wb) (by repeat (first | exact Ext.refl _ | assumption | refine Ext.trans ?_ (Ext.drew _) | refine Ext.trans ?_ (by assumption)))).2; have gb1 := (HX1.out.ext (w' := wb) (by repeat (first | exact Ext.refl _ | assumption | refine Ext.trans ?_ (Ext.drew _) | refine Ext.trans ?_ (by assumption)))).2; obtain ⟨kb0, kb1, kb2, kb3, kb4, kb5⟩ := keepB HX0.out HX1.out (w' := wb) (by repeat (first | exact Ext.refl _ | assumption | refine Ext.trans ?_ (Ext.drew _) | refine Ext.trans ?_ (by assumption))))))
    all_goals
      go_wp2_with fail
      go_meet
      exact two_of HX0.out HX1.out HX2.out HXE.out (by repeat (first | exact Ext.refl _ | assumption | refine Ext.trans ?_ (Ext.drew _) | refine Ext.trans ?_ (by assumption)))
  case rest =>
    clear HX0 HX1 HX2 HXE k0 k1 k2 k3 k4 k5 y0 y1
    have HO := Lib.hid hcut
    clear hcut
    obtain ⟨k0, k1, k2, k3, k4, k5⟩ := keepB HO.out.2.1 HO.out.2.2.1 (Ext.refl _)
    have g2 := HO.out.2.2.2.2
    obtain ⟨r0, r1, r2⟩ := HO.out.2.2.2.1
    have hlt := HO.out.2.2.2.lt
    rw [hlb.out] at k4
    go_wp2_with fail
    exact bodyPost_ret (v := .tuple #[dv false none 0 0 0, I 8]) (by simp [results, Tryd.results7, go_sem, r0, r1, r2]) rfl ⟨rfl, by repeat (first | exact HO.out.1 | refine Ext.set ?_ (by simp; omega) _ | refine Ext.set ?_ (by omega) _)⟩

set_option maxRecDepth 100000 in
set_option maxHeartbeats 1000000 in
theorem rquo_any {w : World} {na nb : Bool} {A A' B B' : Option Addr} {n c c' k e e' : Nat} {da db : Int} {a b : DV} (g : Nat) (ha : Dy w na A n c da a A' c') (hb' : Dy w nb B k e db b B' e') (hg : g ≤ 65536) (hb0 : b.m ≠ 0) :
    Calls Tryd.prog 7 #[dv na A n c da, dv nb B k e db, I g] w (DyNum (quoD a b g) w) := by
  have HA := Lib.hid ha; have HB := Lib.hid hb'; clear ha hb'
  have a1 := HA.out.wf.2.1
  have b1 := HB.out.wf.2.1
  have a2 := HA.out.lim
  have b2 := HB.out.lim
  obtain ⟨X0, X1, X2, XE⟩ := three_boxes w (.bool na) (.slice A n c) (I da) (.bool nb) (.slice B k e) (I db) (.bool false) (.slice none 0 0) (I 0) 24 24 24
  have HX0 := Lib.hid X0; have HX1 := Lib.hid X1; have HX2 := Lib.hid X2; have HXE := Lib.hid XE
  clear X0 X1 X2 XE
  obtain ⟨s1, hs1⟩ : ∃ s1, g + b.den = s1 := ⟨_, rfl⟩
  obtain ⟨s2, hs2⟩ : ∃ s2, a.den = s2 := ⟨_, rfl⟩
  have hs3 : s1 ≤ 131072 := by omega
  have hs4 : s2 ≤ 65536 := by omega
  have hsi : (g : Int) + (b.den : Int) = (s1 : Int) := by omega
  have hsw : IntKind.i64.wrap ((g : Int) + (b.den : Int)) = (s1 : Int) := by rw [IntWalk.i64_in _ (by omega)]; exact hsi
  have hs2i : (a.den : Int) = (s2 : Int) := by omega
  have HQE : Hid (quoD a b g = mkD (a.neg != b.neg) (a.m * 2 ^ s1 / (b.m * 2 ^ s2) + if (a.neg != b.neg) && decide (a.m * 2 ^ s1 % (b.m * 2 ^ s2) ≠ 0) then 1 else 0) g) := by show _ = _; rw [quoD_parts, hs1, hs2]
  have hlb : len b.m ≠ 0 := fun h => hb0 (len_eq_zero.1 h)
  have hlx : len (a.m * 2 ^ s1) ≤ 33554432 := by have := len_shl2 a.m s1; omega
  have hly : len (b.m * 2 ^ s2) ≤ 33554432 := by have := len_shl2 b.m s2; omega
  have hlx' : len (a.m * 2 ^ s1) ≤ 16785408 := by have := len_shl2 a.m s1; omega
  have HY0 : (b.m * 2 ^ s2 ≠ 0) := by
    have := Nat.mul_pos (Nat.pos_of_ne_zero hb0) (p2_pos s2)
    omega
  have HSA1 : Hid (∀ w', Ext w w' → Calls Tryd.prog 28 #[.slice A' (len a.m) c', I s1] w' (NatRes (a.m * 2 ^ s1) w')) := fun w' e => rleft_any A' a.m s1 c' w' (HA.out.rd.ext e) (by omega) (by omega)
  have HSB1 : Hid (∀ w', Ext w w' → Calls Tryd.prog 28 #[.slice B' (len b.m) e', I a.den] w' (NatRes (b.m * 2 ^ s2) w')) := fun w' e => by
    have := rleft_any B' b.m s2 e' w' (HB.out.rd.ext e) (by omega) (by omega)
    rwa [← hs2i] at this
  generalize a.m * 2 ^ s1 = x at *
  generalize b.m * 2 ^ s2 = y at *
  obtain ⟨d', hd'⟩ : ∃ d', mkD (a.neg != b.neg) (x / y + if (a.neg != b.neg) && decide (x % y ≠ 0) then 1 else 0) g = d' := ⟨_, rfl⟩
  rw [HQE.out, hd']
  have HDE := Lib.hid hd'
  clear HQE hb0 hs1 hs2 hs2i hsi hd'
  go_enter Tryd.func7, Tryd.ntmps7
  go_upto_region 3 with fail
  generalize (((w.alloc (.cells #[.bool na, .slice A n c, I da] 24)).alloc (.cells #[.bool nb, .slice B k e, I db] 24)).alloc (.cells #[.bool false, .slice none 0 0, I 0] 24)) = w0 at *
  obtain ⟨k0, k1, k2, k3, k4, k5⟩ := keepB HX0.out HX1.out (Ext.refl _)
  have y0 := HX0.out.2
  have y1 := HX1.out.2
  go_cut [] (fun wx => Two w a b A' B' c' e' wx)
  case first =>
    go_region_with ((first | (go_at_call 26; refine (HA.out.norm _ (HXE.out.trans (by repeat (first | exact Ext.refl _ | assumption | refine Ext.trans ?_ (Ext.drew _) | refine Ext.trans ?_ (by assumption))))).mono ?_; rintro e wa ⟨rfl, hxa⟩; have ga0 := (HX0.out.ext (w' := wa) (by repeat (first | exact Ext.refl _ | assumption | refine Ext.trans ?_ (Ext.drew _) | refine Ext.trans ?_ (by assumption)))).2; have ga1 := (HX1.out.ext (w' := wa) (by repeat (first | exact Ext.refl _ | assumption | refine Ext.trans ?_ (Ext.drew _) | refine Ext.trans ?_ (by assumption)))).2; obtain ⟨ka0, ka1, ka2, ka3, ka4, ka5⟩ := keepB HX0.out HX1.out (w' := wa) (by repeat (first | exact Ext.refl _ | assumption | refine Ext.trans ?_ (Ext.drew _) | refine Ext.trans ?_ (by assumption)))) | (go_at_call 26; refine (HB.out.norm _ (HXE.out.trans (by repeat (first | exact Ext.refl _ | assumption | refine Ext.trans ?_ (Ext.drew _) | refine Ext.trans ?_ (by assumption))))).mono ?_; rintro e wb ⟨rfl, hxb⟩; have gb0 := (HX0.out.ext (w' := wb) (by repeat (first | exact Ext.refl _ | assumption | refine Ext.trans ?_ (Ext.drew _) | refine Ext.trans ?_ (by assumption)))).2; have gb1 := (HX1.out.ext (w' := wb) (by repeat (first | exact Ext.refl _ | assumption | refine Ext.trans ?_ (Ext.drew _) | refine Ext.trans ?_ (by assumption)))).2; obtain ⟨kb0, kb1, kb2, kb3, kb4, kb5⟩ := keepB HX0.out HX1.out (w' := wb) (by repeat (first | exact Ext.refl _ | assumption | refine Ext.trans ?_ (Ext.drew _) | refine Ext.trans ?_ (by assumption))))))
    all_goals
      go_wp2_with fail
      go_meet
      exact two_of HX0.out HX1.out HX2.out HXE.out (by repeat (first | exact Ext.refl _ | assumption | refine Ext.trans ?_ (Ext.drew _) | refine Ext.trans ?_ (by assumption)))
  case rest =>
    clear HX0 HX1 HX2 HXE k0 k1 k2 k3 k4 k5 y0 y1
    have HO := Lib.hid hcut
    have HE := Lib.hid hcut.1
    clear hcut
    obtain ⟨k0, k1, k2, k3, k4, k5⟩ := keepB HO.out.2.1 HO.out.2.2.1 (Ext.refl _)
    have g2 := HO.out.2.2.2.2
    obtain ⟨r0, r1, r2⟩ := HO.out.2.2.2.1
    go_upto_region 6 with fail
    go_cut [8, 9] (fun s9 s10 wx => ∃ A3 c3, s9 = .slice A3 (len (x / y)) c3 ∧ s10 = .bool (decide (x % y ≠ 0)) ∧ Hid (Two w a b A' B' c' e' wx) ∧ Hid (On wx w.heap.size A3 (len (x / y)) c3 (dg (x / y))))
    case first =>
     go_region_held3 (fun w' => w'.cell? ⟨w.heap.size, 0, none⟩ = some (.bool a.neg) ∧ w'.cell? ⟨w.heap.size, 1, none⟩ = some (.slice A' (len a.m) c') ∧ w'.cell? ⟨w.heap.size, 2, none⟩ = some (I a.den) ∧ w'.cell? ⟨w.heap.size + 1, 0, none⟩ = some (.bool b.neg) ∧ w'.cell? ⟨w.heap.size + 1, 1, none⟩ = some (.slice B' (len b.m) e') ∧ w'.cell? ⟨w.heap.size + 1, 2, none⟩ = some (I b.den)) (go_keep)
      (first
        | (go_at_call 28; (with_reducible refine (HSA1.out _ (HE.out.trans (by repeat (first | exact Ext.refl _ | assumption | refine Ext.trans ?_ (Ext.drew _) | refine Ext.trans ?_ (by assumption))))).mono ?_); rintro e w1 ⟨A1, c1, rfl, hon1, hx1⟩; have hrd1 := hon1.rd; clear hon1; obtain ⟨q0, q1, q2, q3, q4, q5⟩ := keepB HO.out.2.1 HO.out.2.2.1 (w' := w1) (by repeat (first | exact Ext.refl _ | assumption | refine Ext.trans ?_ (Ext.drew _) | refine Ext.trans ?_ (by assumption))))
        | (go_at_call 28; (with_reducible refine (HSB1.out _ (HE.out.trans (by repeat (first | exact Ext.refl _ | assumption | refine Ext.trans ?_ (Ext.drew _) | refine Ext.trans ?_ (by assumption))))).mono ?_); rintro e w2 ⟨A2, c2, rfl, hon2, hx2⟩; have hrd2 := hon2.rd; clear hon2; obtain ⟨p0, p1, p2, p3, p4, p5⟩ := keepB HO.out.2.1 HO.out.2.2.1 (w' := w2) (by repeat (first | exact Ext.refl _ | assumption | refine Ext.trans ?_ (Ext.drew _) | refine Ext.trans ?_ (by assumption))))
        | (go_at_call 27; (with_reducible refine (rdivide_any A1 A2 x y c1 c2 _ (hrd1.ext (by repeat (first | exact Ext.refl _ | assumption | refine Ext.trans ?_ (Ext.drew _) | refine Ext.trans ?_ (by assumption)))) (hrd2.ext (by repeat (first | exact Ext.refl _ | assumption | refine Ext.trans ?_ (Ext.drew _) | refine Ext.trans ?_ (by assumption)))) (by omega) (by omega) HY0).mono ?_); rintro e w3 ⟨A3, c3, rfl, hon3, hx3⟩; obtain ⟨o0, o1, o2, o3, o4, o5⟩ := keepB HO.out.2.1 HO.out.2.2.1 (w' := w3) (by repeat (first | exact Ext.refl _ | assumption | refine Ext.trans ?_ (Ext.drew _) | refine Ext.trans ?_ (by assumption)))))
     all_goals
      go_wp2_with fail
      go_meet
      have hsz := HE.out.size
      have hs1' := hx1.size
      have hs2' := hx2.size
      exact ⟨A3, c3, rfl, by simp, keepT HO.out (by repeat (first | exact Ext.refl _ | assumption | refine Ext.trans ?_ (Ext.drew _) | refine Ext.trans ?_ (by assumption))), hon3.mono (by first | exact Nat.le_trans hsz (Nat.le_trans hs1' hs2') | exact Nat.le_trans hsz (Nat.le_trans hs2' hs1'))⟩
    case rest =>
     obtain ⟨A3, c3, rfl, rfl, HO3, HON3⟩ := hcut
     clear HSA1 HSB1 HO HE k0 k1 k2 k3 k4 k5 g2 r0 r1 r2
     obtain ⟨k0, k1, k2, k3, k4, k5⟩ := keepB HO3.out.2.1 HO3.out.2.2.1 (Ext.refl _)
     have g2 := HO3.out.2.2.2.2
     obtain ⟨r0, r1, r2⟩ := HO3.out.2.2.2.1
     have hlq : len (x / y) ≤ 16785408 := Nat.le_trans (len_mono (Nat.div_le_self _ _)) hlx'
     by_cases hn : (a.neg != b.neg) = true ∧ x % y ≠ 0
     · obtain ⟨hn1, hw⟩ := hn
       have hn2 : ¬ a.neg = b.neg := by simpa using hn1
       have hn3 : (a.neg == b.neg) = false := by simpa using hn2
       have hw' : decide (x % y ≠ 0) = true := decide_eq_true hw
       have HD' : Hid (mkD true (x / y + 1) g = d') := by
         show _ = _; rw [← HDE.out, hn1, hw']; rfl
       have hl1 := len_succ (x / y)
       rw [hw']
       clear hw hw' hn1
       go_wp2_with (first
         | (go_at_call 29; refine (plus_one A3 (x / y) c3 wc.heap.size 1 _ (HON3.out.rd.ext (Ext.alloc _ _)) (by simp) (by go_simp) (by omega)).mono ?_; rintro e w4 ⟨A4, c4, rfl, hon, hx⟩; have HON4 := Lib.hid hon; have HT4 := Lib.hid (keepT HO3.out ((Ext.alloc _ _).trans hx)); clear hon hx k0 k1 k2 k3 k4 k5 g2 r0 r1 r2; have g2 := HT4.out.2.2.2.2; obtain ⟨r0, r1, r2⟩ := HT4.out.2.2.2.1)
         | (go_at_call 30; (with_reducible refine (rnumber_at true A4 c4 g (x / y + 1) _ HON4.out.rd HON4.out.ok (by omega) (by omega)).mono ?_); rw [HD'.out]; rintro e w5 ⟨A6, c6, rfl, hon, hx⟩; have HO6 := Lib.hid hon; have HT6 := Lib.hid (keepT HT4.out hx); clear hon hx g2 r0 r1 r2; have g2 := HT6.out.2.2.2.2; obtain ⟨r0, r1, r2⟩ := HT6.out.2.2.2.1))
       all_goals
         have hlt := HT4.out.2.2.2.lt
         go_wp2_with fail
         exact bodyPost_ret (v := .tuple #[dv d'.neg A6 (len d'.m) c6 d'.den, I 0]) (by simp [results, Tryd.results7, go_sem, r0, r1, r2]) rfl (DyNum.end3 rfl HO6.out HT6.out.1 (by omega) (by omega) hlt)
     · have HD' : Hid (mkD (a.neg != b.neg) (x / y) g = d') := by
         show _ = _
         rw [← HDE.out]
         have : ((a.neg != b.neg) && decide (x % y ≠ 0)) = false := by
           cases h1 : (a.neg != b.neg)
           · rfl
           · by_cases h2 : x % y ≠ 0
             · exact absurd ⟨h1, h2⟩ hn
             · simp at h2; simp [h2]
         rw [this]; rfl
       by_cases hn2 : a.neg = b.neg
       · have hn3 : (a.neg == b.neg) = true := by simpa using hn2
         have hn4 : (a.neg != b.neg) = false := by simpa using hn2
         rw [hn4] at HD'
         clear hn hn4
         go_wp2_with (go_at_call 30; (with_reducible refine (rnumber_at false A3 c3 g (x / y) _ HON3.out.rd HON3.out.ok (by omega) (by omega)).mono ?_); rw [HD'.out]; rintro e w5 ⟨A6, c6, rfl, hon, hx⟩; have HO6 := Lib.hid hon; have HT6 := Lib.hid (keepT HO3.out hx); clear hon hx g2 r0 r1 r2; have g2 := HT6.out.2.2.2.2; obtain ⟨r0, r1, r2⟩ := HT6.out.2.2.2.1)
         all_goals
           have hlt := HO3.out.2.2.2.lt
           go_wp2_with fail
           exact bodyPost_ret (v := .tuple #[dv d'.neg A6 (len d'.m) c6 d'.den, I 0]) (by simp [results, Tryd.results7, go_sem, r0, r1, r2]) rfl (DyNum.end3 rfl HO6.out HT6.out.1 (by omega) (by omega) hlt)
       · have hn3 : (a.neg == b.neg) = false := by simpa using hn2
         have hn4 : (a.neg != b.neg) = true := by simpa using hn2
         have hw' : decide (x % y ≠ 0) = false := decide_eq_false fun h => hn ⟨hn4, h⟩
         rw [hn4] at HD'
         rw [hw']
         clear hn hn4 hw'
         go_wp2_with (go_at_call 30; (with_reducible refine (rnumber_at true A3 c3 g (x / y) _ HON3.out.rd HON3.out.ok (by omega) (by omega)).mono ?_); rw [HD'.out]; rintro e w5 ⟨A6, c6, rfl, hon, hx⟩; have HO6 := Lib.hid hon; have HT6 := Lib.hid (keepT HO3.out hx); clear hon hx g2 r0 r1 r2; have g2 := HT6.out.2.2.2.2; obtain ⟨r0, r1, r2⟩ := HT6.out.2.2.2.1)
         all_goals
           have hlt := HO3.out.2.2.2.lt
           go_wp2_with fail
           exact bodyPost_ret (v := .tuple #[dv d'.neg A6 (len d'.m) c6 d'.den, I 0]) (by simp [results, Tryd.results7, go_sem, r0, r1, r2]) rfl (DyNum.end3 rfl HO6.out HT6.out.1 (by omega) (by omega) hlt)
end Go.Proofs.YtimpgdkeiopboaaDoor
