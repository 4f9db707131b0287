/- Numbers as structs: quotients. -/
import Derived.Test.YtlnphamgmicniaaGreatDoorDym
import Derived.Test.YtlnphamgmicniaaGreatDoorNatk
namespace Go.Proofs.YtlnphamgmicniaaGreatDoor
open Go.RowKit
attribute [local go_sem ↓] Go.wp_at_zero Go.wp_at_succ

theorem quo_shift (a b k u : Nat) (m n : Nat) (s1 s2 : Nat) (h1 : s1 = k + b - a) (h2 : s2 = a - (k + b)) : m * 2 ^ (k + b) / (n * 2 ^ a) = m * 2 ^ s1 / (n * 2 ^ s2) ∧ (m * 2 ^ (k + b) % (n * 2 ^ a) = 0 ↔ m * 2 ^ s1 % (n * 2 ^ s2) = 0) ∧ u = u := by
  obtain ⟨c, hc⟩ : ∃ c, min (k + b) a = c := ⟨_, rfl⟩
  have e1 : m * 2 ^ (k + b) = m * 2 ^ s1 * 2 ^ c := by rw [Nat.mul_assoc, ← Nat.pow_add]; congr 2; omega
  have e2 : n * 2 ^ a = n * 2 ^ s2 * 2 ^ c := by rw [Nat.mul_assoc, ← Nat.pow_add]; congr 2; omega
  rw [e1, e2]
  have := shl_quo (m * 2 ^ s1) (n * 2 ^ s2) c
  exact ⟨this.1, this.2, rfl⟩
def quoUp (neg : Bool) (x y : Nat) : Nat := x / y + if neg && !decide (x % y = 0) then 1 else 0
theorem quoD_eq {a b : DV} {k s1 s2 : Nat} (h1 : s1 = k + b.den - a.den) (h2 : s2 = a.den - (k + b.den)) : quoD a b k = mkD (a.neg != b.neg) (quoUp (a.neg != b.neg) (a.m * 2 ^ s1) (b.m * 2 ^ s2)) k := by
  obtain ⟨e1, e2, _⟩ := quo_shift a.den b.den k 0 a.m b.m s1 s2 h1 h2
  unfold quoD quoUp
  rw [e1]
  congr 3
  have : decide (a.m * 2 ^ (k + b.den) % (b.m * 2 ^ a.den) ≠ 0) = !decide (a.m * 2 ^ s1 % (b.m * 2 ^ s2) = 0) := by
    rw [Bool.eq_iff_iff]; simp [e2]
  rw [this]
theorem quoUp_up {neg : Bool} {x y : Nat} (h : neg = true) (h2 : decide (x % y = 0) = false) : quoUp neg x y = x / y + 1 := by unfold quoUp; rw [h, h2]; rfl
theorem quoUp_whole {neg : Bool} {x y : Nat} (h2 : decide (x % y = 0) = true) : quoUp neg x y = x / y := by unfold quoUp; rw [h2]; simp
theorem quoUp_pos {neg : Bool} {x y : Nat} (h : neg = false) : quoUp neg x y = x / y := by unfold quoUp; rw [h]; simp

set_option maxRecDepth 100000 in
set_option maxHeartbeats 1000000 in
theorem quo_any {w : World} {na nb : Bool} {A A' B B' : Option Addr} {n c c' k e e' : Nat} {da db : Int} {a b : DV} (g : Nat) (ha : Dy w na A n c da a A' c') (hb' : Dy w nb B k e db b B' e') (hT : Tabs w) (hg : g ≤ 65536) (hb0 : b.m ≠ 0) :
    Calls Tryz.prog 62 #[dv na A n c da, dv nb B k e db, I g] w (DyOk (quoD a b g) w) := by
  have HA := Lib.hid ha; have HB := Lib.hid hb'; have HT := Lib.hid hT; clear ha hb' hT
  have a1 := HA.out.wf.2.1
  have b1 := HB.out.wf.2.1
  have a2 := HA.out.lim
  have b2 := HB.out.lim
  obtain ⟨X0, X1, X2, XE⟩ := three_boxes w (.bool na) (.slice A n c) (I da) (.bool nb) (.slice B k e) (I db) (.bool false) (.slice none 0 0) (I 0) 25 25 25
  have HX0 := Lib.hid X0; have HX1 := Lib.hid X1; have HX2 := Lib.hid X2; have HXE := Lib.hid XE
  clear X0 X1 X2 XE
  obtain ⟨s1, hs1⟩ : ∃ s1, s1 = g + b.den - a.den := ⟨_, rfl⟩
  obtain ⟨s2, hs2⟩ : ∃ s2, s2 = a.den - (g + b.den) := ⟨_, rfl⟩
  have hs3 : s1 ≤ 131072 := by omega
  have hs4 : s2 ≤ 65536 := by omega
  have HQE := Lib.hid (quoD_eq hs1 hs2)
  obtain ⟨sh, hsh⟩ : ∃ sh : Int, (g : Int) + (b.den : Int) - (a.den : Int) = sh := ⟨_, rfl⟩
  have hsh1 : max sh 0 = (s1 : Int) := by omega
  have hsh2 : max (-sh) 0 = (s2 : Int) := by omega
  have hsh3 : -131072 ≤ sh ∧ sh ≤ 131072 := by omega
  obtain ⟨hsh4, hsh5⟩ := hsh3
  have hw1 : IntKind.i64.wrap (-sh) = -sh := IntWalk.i64_in _ (by omega)
  have HSB : Hid (∀ w', Ext w w' → Calls Tryz.prog 97 #[dv nb B k e db] w' fun e w'' => e = .returned (I (signD b)) ∧ Ext w' w'') := fun w' e => sign_any (HB.out.ext e)
  have hsb : signD b ≠ 0 := by
    unfold signD; rw [if_neg hb0]; split <;> decide
  have hsb' : (signD b == 0) = false := by simpa using hsb
  generalize signD b = sb at *
  have hlx : len (a.m * 2 ^ s1) ≤ 16785408 := by have := len_shl2 a.m s1; omega
  have hly : len (b.m * 2 ^ s2) ≤ 16785408 := by have := len_shl2 b.m s2; omega
  have HY0 : (b.m * 2 ^ s2 ≠ 0) := by
    have := Nat.mul_pos (Nat.pos_of_ne_zero hb0) (p2_pos s2)
    omega
  have HSA1 : Hid (∀ w', Ext w w' → Calls Tryz.prog 109 #[.slice A' (len a.m) c', I s1] w' (NatRes (a.m * 2 ^ s1) w')) := fun w' e => shiftLeft_any A' a.m s1 c' w' (HA.out.rd.ext e) (by omega) (by omega)
  have HSB1 : Hid (∀ w', Ext w w' → Calls Tryz.prog 109 #[.slice B' (len b.m) e', I s2] w' (NatRes (b.m * 2 ^ s2) w')) := fun w' e => shiftLeft_any B' b.m s2 e' w' (HB.out.rd.ext e) (by omega) (by omega)
  generalize a.m * 2 ^ s1 = x at *
  generalize b.m * 2 ^ s2 = y at *
  rw [HQE.out]
  clear HQE hb0 hsb hs1 hs2
  go_enter Tryz.func62, Tryz.ntmps62
  go_upto_region 5 with (first
    | (go_at_call 102; refine (isGrid_t _ _ (by omega) (by omega)).mono ?_; rintro e w' ⟨rfl, rfl⟩)
    | (go_at_call 97; refine (HSB.out _ HXE.out).mono ?_; rintro e w0 ⟨rfl, hx0⟩; have HX00 := Lib.hid hx0; clear hx0))
  have X0 := HX0.out.ext HX00.out
  have X1 := HX1.out.ext HX00.out
  have X2 := HX2.out.ext HX00.out
  have XE := HXE.out.trans HX00.out
  clear HX0 HX1 HX2 HXE HX00
  have HX0 := Lib.hid X0; have HX1 := Lib.hid X1; have HX2 := Lib.hid X2; have HXE := Lib.hid XE
  obtain ⟨k0, k1, k2, k3, k4, k5⟩ := keepB HX0.out HX1.out (Ext.refl _)
  have y0 := HX0.out.2
  have y1 := HX1.out.2
  clear X0 X1 X2 XE
  go_cut [] (fun wx => Two w a b A' B' c' e' wx)
  case first =>
    go_region_with ((first | (go_at_call 73; refine (HA.out.num _ (HXE.out.trans (by repeat (first | exact Ext.refl _ | assumption | refine Ext.trans ?_ (Ext.drew _) | refine Ext.trans ?_ (by assumption))))).mono ?_; rintro e wa ⟨rfl, hxa⟩; have ga0 := (HX0.out.ext (w' := wa) (by repeat (first | exact Ext.refl _ | assumption | refine Ext.trans ?_ (Ext.drew _) | refine Ext.trans ?_ (by assumption)))).2; have ga1 := (HX1.out.ext (w' := wa) (by repeat (first | exact Ext.refl _ | assumption | refine Ext.trans ?_ (Ext.drew _) | refine Ext.trans ?_ (by assumption)))).2; obtain ⟨ka0, ka1, ka2, ka3, ka4, ka5⟩ := keepB HX0.out HX1.out (w' := wa) (by repeat (first | exact Ext.refl _ | assumption | refine Ext.trans ?_ (Ext.drew _) | refine Ext.trans ?_ (by assumption)))) | (go_at_call 73; refine (HB.out.num _ (HXE.out.trans (by repeat (first | exact Ext.refl _ | assumption | refine Ext.trans ?_ (Ext.drew _) | refine Ext.trans ?_ (by assumption))))).mono ?_; rintro e wb ⟨rfl, hxb⟩; have gb0 := (HX0.out.ext (w' := wb) (by repeat (first | exact Ext.refl _ | assumption | refine Ext.trans ?_ (Ext.drew _) | refine Ext.trans ?_ (by assumption)))).2; have gb1 := (HX1.out.ext (w' := wb) (by repeat (first | exact Ext.refl _ | assumption | refine Ext.trans ?_ (Ext.drew _) | refine Ext.trans ?_ (by assumption)))).2; obtain ⟨kb0, kb1, kb2, kb3, kb4, kb5⟩ := keepB HX0.out HX1.out (w' := wb) (by repeat (first | exact Ext.refl _ | assumption | refine Ext.trans ?_ (Ext.drew _) | refine Ext.trans ?_ (by assumption))))))
    all_goals
      go_wp2_with fail
      go_meet
      exact two_of HX0.out HX1.out HX2.out HXE.out (by repeat (first | exact Ext.refl _ | assumption | refine Ext.trans ?_ (Ext.drew _) | refine Ext.trans ?_ (by assumption)))
  case rest =>
    clear HX0 HX1 HX2 HXE k0 k1 k2 k3 k4 k5 y0 y1
    have HO := Lib.hid hcut
    have HE := Lib.hid hcut.1
    clear hcut
    obtain ⟨k0, k1, k2, k3, k4, k5⟩ := keepB HO.out.2.1 HO.out.2.2.1 (Ext.refl _)
    have g2 := HO.out.2.2.2.2
    obtain ⟨r0, r1, r2⟩ := HO.out.2.2.2.1
    go_upto_region 7 with fail
    go_cut [9, 10] (fun s9 s10 wx => ∃ A3 c3, s9 = .slice A3 (len (x / y)) c3 ∧ s10 = .bool (decide (x % y = 0)) ∧ Hid (Two w a b A' B' c' e' wx) ∧ Hid (On wx w.heap.size A3 (len (x / y)) c3 (dg (x / y))))
    case first =>
     go_region_held3 (fun w' => w'.cell? ⟨w.heap.size, 0, none⟩ = some (.bool a.neg) ∧ w'.cell? ⟨w.heap.size, 1, none⟩ = some (.slice A' (len a.m) c') ∧ w'.cell? ⟨w.heap.size, 2, none⟩ = some (I a.den) ∧ w'.cell? ⟨w.heap.size + 1, 0, none⟩ = some (.bool b.neg) ∧ w'.cell? ⟨w.heap.size + 1, 1, none⟩ = some (.slice B' (len b.m) e') ∧ w'.cell? ⟨w.heap.size + 1, 2, none⟩ = some (I b.den)) (go_keep)
      (first
        | (go_at_call 109; (with_reducible refine (HSA1.out _ (HE.out.trans (by repeat (first | exact Ext.refl _ | assumption | refine Ext.trans ?_ (Ext.drew _) | refine Ext.trans ?_ (by assumption))))).mono ?_); rintro e w1 ⟨A1, c1, rfl, hon1, hx1⟩; have hrd1 := hon1.rd; clear hon1; obtain ⟨q0, q1, q2, q3, q4, q5⟩ := keepB HO.out.2.1 HO.out.2.2.1 (w' := w1) (by repeat (first | exact Ext.refl _ | assumption | refine Ext.trans ?_ (Ext.drew _) | refine Ext.trans ?_ (by assumption))))
        | (go_at_call 109; (with_reducible refine (HSB1.out _ (HE.out.trans (by repeat (first | exact Ext.refl _ | assumption | refine Ext.trans ?_ (Ext.drew _) | refine Ext.trans ?_ (by assumption))))).mono ?_); rintro e w2 ⟨A2, c2, rfl, hon2, hx2⟩; have hrd2 := hon2.rd; clear hon2; obtain ⟨p0, p1, p2, p3, p4, p5⟩ := keepB HO.out.2.1 HO.out.2.2.1 (w' := w2) (by repeat (first | exact Ext.refl _ | assumption | refine Ext.trans ?_ (Ext.drew _) | refine Ext.trans ?_ (by assumption))))
        | (go_at_call 108; (with_reducible refine (quotient_any A1 A2 x y c1 c2 _ (hrd1.ext (by repeat (first | exact Ext.refl _ | assumption | refine Ext.trans ?_ (Ext.drew _) | refine Ext.trans ?_ (by assumption)))) (hrd2.ext (by repeat (first | exact Ext.refl _ | assumption | refine Ext.trans ?_ (Ext.drew _) | refine Ext.trans ?_ (by assumption)))) (by omega) (by omega) HY0).mono ?_); rintro e w3 ⟨A3, c3, rfl, hon3, hx3⟩; obtain ⟨o0, o1, o2, o3, o4, o5⟩ := keepB HO.out.2.1 HO.out.2.2.1 (w' := w3) (by repeat (first | exact Ext.refl _ | assumption | refine Ext.trans ?_ (Ext.drew _) | refine Ext.trans ?_ (by assumption)))))
     all_goals
      go_wp2_with fail
      go_meet
      have hsz := HE.out.size
      have hs1' := hx1.size
      have hs2' := hx2.size
      exact ⟨A3, c3, rfl, rfl, keepT HO.out (by repeat (first | exact Ext.refl _ | assumption | refine Ext.trans ?_ (Ext.drew _) | refine Ext.trans ?_ (by assumption))), hon3.mono (by first | exact Nat.le_trans hsz (Nat.le_trans hs1' hs2') | exact Nat.le_trans hsz (Nat.le_trans hs2' hs1'))⟩
    case rest =>
     obtain ⟨A3, c3, rfl, rfl, HO3, HON3⟩ := hcut
     clear HSA1 HSB1 HSB HO HE k0 k1 k2 k3 k4 k5 g2 r0 r1 r2 hsh hsh1 hsh2 hsh4 hsh5 hw1 hsb'
     obtain ⟨k0, k1, k2, k3, k4, k5⟩ := keepB HO3.out.2.1 HO3.out.2.2.1 (Ext.refl _)
     have g2 := HO3.out.2.2.2.2
     obtain ⟨r0, r1, r2⟩ := HO3.out.2.2.2.1
     have hlq : len (x / y) ≤ 16785408 := Nat.le_trans (len_mono (Nat.div_le_self _ _)) hlx
     cases hw : decide (x % y = 0) with
     | true =>
       by_cases hn : a.neg = b.neg
       · have hn' : (a.neg != b.neg) = false := by simpa using hn
         have hn2' : (a.neg == b.neg) = true := by simpa using hn
         have HD' : Hid (nrmI false (x / y) (g : Int) = mkD (a.neg != b.neg) (quoUp (a.neg != b.neg) x y) g) := by show _ = _; rw [nrmI_nat, quoUp_whole hw, hn']
         generalize mkD (a.neg != b.neg) (quoUp (a.neg != b.neg) x y) g = d' at *
         clear hw hn
         go_wp2_with (go_at_call 103; refine (normal_at _ A3 (x / y) c3 _ _ d' HD'.out (HT.out.ext HO3.out.1) HON3.out.rd HON3.out.ok (by omega) (by omega) (by omega)).mono ?_; rintro e w6 ⟨A6, c6, rfl, hon6, hx6⟩; have HO6 := Lib.hid hon6; have HT6 := Lib.hid (keepT HO3.out hx6); clear hon6 hx6 k0 k1 k2 k3 k4 k5 g2 r0 r1 r2; have g2 := HT6.out.2.2.2.2; obtain ⟨r0, r1, r2⟩ := HT6.out.2.2.2.1)
         all_goals
           have hlt := HO3.out.2.2.2.lt
           go_wp2_with fail
           exact bodyPost_ret (v := .tuple #[dv d'.neg A6 (len d'.m) c6 d'.den, .nilIface]) (by simp [results, Tryz.results62, go_sem, r0, r1, r2]) rfl (DyOk.end3 rfl HO6.out HT6.out.1 (by omega) (by omega) hlt)
       · have hn' : (a.neg != b.neg) = true := by simpa using hn
         have hn2' : (a.neg == b.neg) = false := by simpa using hn
         have HD' : Hid (nrmI true (x / y) (g : Int) = mkD (a.neg != b.neg) (quoUp (a.neg != b.neg) x y) g) := by show _ = _; rw [nrmI_nat, quoUp_whole hw, hn']
         generalize mkD (a.neg != b.neg) (quoUp (a.neg != b.neg) x y) g = d' at *
         clear hw hn
         go_wp2_with (go_at_call 103; refine (normal_at _ A3 (x / y) c3 _ _ d' HD'.out (HT.out.ext HO3.out.1) HON3.out.rd HON3.out.ok (by omega) (by omega) (by omega)).mono ?_; rintro e w6 ⟨A6, c6, rfl, hon6, hx6⟩; have HO6 := Lib.hid hon6; have HT6 := Lib.hid (keepT HO3.out hx6); clear hon6 hx6 k0 k1 k2 k3 k4 k5 g2 r0 r1 r2; have g2 := HT6.out.2.2.2.2; obtain ⟨r0, r1, r2⟩ := HT6.out.2.2.2.1)
         all_goals
           have hlt := HO3.out.2.2.2.lt
           go_wp2_with fail
           exact bodyPost_ret (v := .tuple #[dv d'.neg A6 (len d'.m) c6 d'.den, .nilIface]) (by simp [results, Tryz.results62, go_sem, r0, r1, r2]) rfl (DyOk.end3 rfl HO6.out HT6.out.1 (by omega) (by omega) hlt)
     | false =>
       by_cases hn : a.neg = b.neg
       · have hn' : (a.neg != b.neg) = false := by simpa using hn
         have hn2' : (a.neg == b.neg) = true := by simpa using hn
         have HD' : Hid (nrmI false (x / y) (g : Int) = mkD (a.neg != b.neg) (quoUp (a.neg != b.neg) x y) g) := by show _ = _; rw [nrmI_nat, quoUp_pos hn', hn']
         generalize mkD (a.neg != b.neg) (quoUp (a.neg != b.neg) x y) g = d' at *
         clear hw hn
         go_wp2_with (go_at_call 103; refine (normal_at _ A3 (x / y) c3 _ _ d' HD'.out (HT.out.ext HO3.out.1) HON3.out.rd HON3.out.ok (by omega) (by omega) (by omega)).mono ?_; rintro e w6 ⟨A6, c6, rfl, hon6, hx6⟩; have HO6 := Lib.hid hon6; have HT6 := Lib.hid (keepT HO3.out hx6); clear hon6 hx6 k0 k1 k2 k3 k4 k5 g2 r0 r1 r2; have g2 := HT6.out.2.2.2.2; obtain ⟨r0, r1, r2⟩ := HT6.out.2.2.2.1)
         all_goals
           have hlt := HO3.out.2.2.2.lt
           go_wp2_with fail
           exact bodyPost_ret (v := .tuple #[dv d'.neg A6 (len d'.m) c6 d'.den, .nilIface]) (by simp [results, Tryz.results62, go_sem, r0, r1, r2]) rfl (DyOk.end3 rfl HO6.out HT6.out.1 (by omega) (by omega) hlt)
       · have hn' : (a.neg != b.neg) = true := by simpa using hn
         have hn2' : (a.neg == b.neg) = false := by simpa using hn
         have HD' : Hid (nrmI true (x / y + 1) (g : Int) = mkD (a.neg != b.neg) (quoUp (a.neg != b.neg) x y) g) := by show _ = _; rw [nrmI_nat, quoUp_up hn' hw, hn']
         have hl1 := len_succ (x / y)
         generalize mkD (a.neg != b.neg) (quoUp (a.neg != b.neg) x y) g = d' at *
         clear hw hn
         go_wp2_with (first
           | (go_at_call 104; refine (ofInt_one _).mono ?_; rintro e w4 ⟨A4, c4, rfl, hon, hx⟩; have HON4 := Lib.hid hon; have HX4 := Lib.hid hx; have HT4 := Lib.hid (keepT HO3.out hx); clear hon hx k0 k1 k2 k3 k4 k5 g2 r0 r1 r2; have g2 := HT4.out.2.2.2.2; obtain ⟨r0, r1, r2⟩ := HT4.out.2.2.2.1)
           | (go_at_call 107; refine (sum_any A3 A4 (x / y) 1 c3 c4 _ (HON3.out.rd.ext HX4.out) HON4.out.rd HON3.out.ok HON4.out.ok (by omega) (by have := len_one; omega)).mono ?_; rintro e w5 ⟨A5, c5, rfl, hon, hx⟩; have HON5 := Lib.hid hon; have HT5 := Lib.hid (keepT HT4.out hx); clear hon hx g2 r0 r1 r2; have g2 := HT5.out.2.2.2.2; obtain ⟨r0, r1, r2⟩ := HT5.out.2.2.2.1)
           | (go_at_call 103; refine (normal_at _ A5 (x / y + 1) c5 _ _ d' HD'.out (HT.out.ext HT5.out.1) HON5.out.rd HON5.out.ok (by omega) (by omega) (by omega)).mono ?_; rintro e w6 ⟨A6, c6, rfl, hon6, hx6⟩; have HO6 := Lib.hid hon6; have HT6 := Lib.hid (keepT HT5.out hx6); clear hon6 hx6 g2 r0 r1 r2; have g2 := HT6.out.2.2.2.2; obtain ⟨r0, r1, r2⟩ := HT6.out.2.2.2.1))
         all_goals
           have hlt := HT5.out.2.2.2.lt
           go_wp2_with fail
           exact bodyPost_ret (v := .tuple #[dv d'.neg A6 (len d'.m) c6 d'.den, .nilIface]) (by simp [results, Tryz.results62, go_sem, r0, r1, r2]) rfl (DyOk.end3 rfl HO6.out HT6.out.1 (by omega) (by omega) hlt)

end Go.Proofs.YtlnphamgmicniaaGreatDoor
