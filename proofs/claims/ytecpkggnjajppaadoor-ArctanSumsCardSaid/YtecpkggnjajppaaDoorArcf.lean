/- Contracts of package arctan: two directions compared. -/
import Derived.Test.YtecpkggnjajppaaDoorArce
import Derived.Test.YtecpkggnjajppaaDoorShelf
namespace Go.Proofs.YtecpkggnjajppaaDoor
open Go.RowKit

def cmpi (a b : Int) : Int := if a < b then -1 else if b < a then 1 else 0
def orF (p q : Int) : Int := if p = 0 then q else p
def U8 (n : Int) : Value := .int .u64 n

set_option maxHeartbeats 400000 in
theorem nan_any (a : Int) (w : World) : Calls Tryd.prog 38 #[I a] w fun e w' => e = .returned (.bool false) ∧ Ext w w' := by
  go_enter Tryd.func38, Tryd.ntmps38
  go_wp2
  go_ret
  exact ⟨by simp, Ext.refl _⟩
set_option maxHeartbeats 400000 in
theorem nanu_any (a : Int) (w : World) : Calls Tryd.prog 43 #[U8 a] w fun e w' => e = .returned (.bool false) ∧ Ext w w' := by
  unfold U8
  go_enter Tryd.func43, Tryd.ntmps43
  go_wp2
  go_ret
  exact ⟨by simp, Ext.refl _⟩
set_option maxHeartbeats 400000 in
theorem cmp_any (a b : Int) (w : World) : Calls Tryd.prog 29 #[I a, I b] w fun e w' => e = .returned (I (cmpi a b)) ∧ Ext w w' := by
  rcases (show a < b ∨ (¬ a < b ∧ b < a) ∨ (¬ a < b ∧ ¬ b < a) by omega) with h | ⟨h, h'⟩ | ⟨h, h'⟩
  · have HV : Hid (cmpi a b = -1) := by show cmpi a b = -1; unfold cmpi; rw [if_pos h]
    go_enter Tryd.func29, Tryd.ntmps29
    go_wp2_with (first | (go_at_call 38; refine (nan_any _ _).mono ?_; rintro e w1 ⟨rfl, hb1⟩; (first | replace hb := Ext.trans hb hb1 | replace hb := Ext.trans (Ext.trans hb (Ext.drewN _ _)) hb1 | replace hb := Ext.trans (Ext.trans hb (Ext.alloc _ _)) hb1 | have hb := hb1); clear hb1; obtain ⟨hc1, hf1⟩ := hb.old))
    go_ret
    exact ⟨by rw [HV.out]; rfl, (by repeat (first | exact Ext.refl _ | assumption | exact Ext.alloc _ _ | refine Ext.trans ?_ (by assumption) | refine Ext.trans ?_ (Ext.alloc _ _) | refine Ext.trans ?_ (Ext.drewN _ _) | refine Ext.trans ?_ (Ext.drew _)))⟩
  · have HV : Hid (cmpi a b = 1) := by show cmpi a b = 1; unfold cmpi; rw [if_neg h, if_pos h']
    go_enter Tryd.func29, Tryd.ntmps29
    go_wp2_with (first | (go_at_call 38; refine (nan_any _ _).mono ?_; rintro e w1 ⟨rfl, hb1⟩; (first | replace hb := Ext.trans hb hb1 | replace hb := Ext.trans (Ext.trans hb (Ext.drewN _ _)) hb1 | replace hb := Ext.trans (Ext.trans hb (Ext.alloc _ _)) hb1 | have hb := hb1); clear hb1; obtain ⟨hc1, hf1⟩ := hb.old))
    go_ret
    exact ⟨by rw [HV.out]; rfl, (by repeat (first | exact Ext.refl _ | assumption | exact Ext.alloc _ _ | refine Ext.trans ?_ (by assumption) | refine Ext.trans ?_ (Ext.alloc _ _) | refine Ext.trans ?_ (Ext.drewN _ _) | refine Ext.trans ?_ (Ext.drew _)))⟩
  · have HV : Hid (cmpi a b = 0) := by show cmpi a b = 0; unfold cmpi; rw [if_neg h, if_neg h']
    go_enter Tryd.func29, Tryd.ntmps29
    go_wp2_with (first | (go_at_call 38; refine (nan_any _ _).mono ?_; rintro e w1 ⟨rfl, hb1⟩; (first | replace hb := Ext.trans hb hb1 | replace hb := Ext.trans (Ext.trans hb (Ext.drewN _ _)) hb1 | replace hb := Ext.trans (Ext.trans hb (Ext.alloc _ _)) hb1 | have hb := hb1); clear hb1; obtain ⟨hc1, hf1⟩ := hb.old))
    go_ret
    exact ⟨by rw [HV.out]; rfl, (by repeat (first | exact Ext.refl _ | assumption | exact Ext.alloc _ _ | refine Ext.trans ?_ (by assumption) | refine Ext.trans ?_ (Ext.alloc _ _) | refine Ext.trans ?_ (Ext.drewN _ _) | refine Ext.trans ?_ (Ext.drew _)))⟩
set_option maxHeartbeats 400000 in
theorem cmpu_any (a b : Int) (w : World) : Calls Tryd.prog 41 #[.int .u64 a, .int .u64 b] w fun e w' => e = .returned (I (cmpi a b)) ∧ Ext w w' := by
  rcases (show a < b ∨ (¬ a < b ∧ b < a) ∨ (¬ a < b ∧ ¬ b < a) by omega) with h | ⟨h, h'⟩ | ⟨h, h'⟩
  · have HV : Hid (cmpi a b = -1) := by show cmpi a b = -1; unfold cmpi; rw [if_pos h]
    go_enter Tryd.func41, Tryd.ntmps41
    go_wp2_with (first | (go_at_call 43; refine (nanu_any _ _).mono ?_; rintro e w1 ⟨rfl, hb1⟩; (first | replace hb := Ext.trans hb hb1 | replace hb := Ext.trans (Ext.trans hb (Ext.drewN _ _)) hb1 | replace hb := Ext.trans (Ext.trans hb (Ext.alloc _ _)) hb1 | have hb := hb1); clear hb1; obtain ⟨hc1, hf1⟩ := hb.old))
    go_ret
    exact ⟨by rw [HV.out]; rfl, (by repeat (first | exact Ext.refl _ | assumption | exact Ext.alloc _ _ | refine Ext.trans ?_ (by assumption) | refine Ext.trans ?_ (Ext.alloc _ _) | refine Ext.trans ?_ (Ext.drewN _ _) | refine Ext.trans ?_ (Ext.drew _)))⟩
  · have HV : Hid (cmpi a b = 1) := by show cmpi a b = 1; unfold cmpi; rw [if_neg h, if_pos h']
    go_enter Tryd.func41, Tryd.ntmps41
    go_wp2_with (first | (go_at_call 43; refine (nanu_any _ _).mono ?_; rintro e w1 ⟨rfl, hb1⟩; (first | replace hb := Ext.trans hb hb1 | replace hb := Ext.trans (Ext.trans hb (Ext.drewN _ _)) hb1 | replace hb := Ext.trans (Ext.trans hb (Ext.alloc _ _)) hb1 | have hb := hb1); clear hb1; obtain ⟨hc1, hf1⟩ := hb.old))
    go_ret
    exact ⟨by rw [HV.out]; rfl, (by repeat (first | exact Ext.refl _ | assumption | exact Ext.alloc _ _ | refine Ext.trans ?_ (by assumption) | refine Ext.trans ?_ (Ext.alloc _ _) | refine Ext.trans ?_ (Ext.drewN _ _) | refine Ext.trans ?_ (Ext.drew _)))⟩
  · have HV : Hid (cmpi a b = 0) := by show cmpi a b = 0; unfold cmpi; rw [if_neg h, if_neg h']
    go_enter Tryd.func41, Tryd.ntmps41
    go_wp2_with (first | (go_at_call 43; refine (nanu_any _ _).mono ?_; rintro e w1 ⟨rfl, hb1⟩; (first | replace hb := Ext.trans hb hb1 | replace hb := Ext.trans (Ext.trans hb (Ext.drewN _ _)) hb1 | replace hb := Ext.trans (Ext.trans hb (Ext.alloc _ _)) hb1 | have hb := hb1); clear hb1; obtain ⟨hc1, hf1⟩ := hb.old))
    go_ret
    exact ⟨by rw [HV.out]; rfl, (by repeat (first | exact Ext.refl _ | assumption | exact Ext.alloc _ _ | refine Ext.trans ?_ (by assumption) | refine Ext.trans ?_ (Ext.alloc _ _) | refine Ext.trans ?_ (Ext.drewN _ _) | refine Ext.trans ?_ (Ext.drew _)))⟩

set_option maxRecDepth 100000 in
set_option maxHeartbeats 1000000 in
theorem or_any (p q : Int) (w : World) (b : Nat) (c0 : w.cell? ⟨b, 0, none⟩ = some (I p)) (c1 : w.cell? ⟨b, 1, none⟩ = some (I q)) :
    Calls Tryd.prog 40 #[.slice (some ⟨b, 0, none⟩) 2 2] w fun e w' => e = .returned (I (orF p q)) ∧ Ext w w' := by
  go_enter Tryd.func40, Tryd.ntmps40
  go_wp2_with fail
  go_loopw [8] (fun a wr => w = wr ∧ (a = I 0 ∨ (p = 0 ∧ a = I 1) ∨ (p = 0 ∧ q = 0 ∧ a = I 2))) (fun a _ => (2 - intOf a).toNat)
  case atStart => exact ⟨rfl, .inl rfl⟩
  case round =>
    obtain ⟨rfl, rfl | ⟨h, rfl⟩ | ⟨h, h', rfl⟩⟩ := hrel
    · by_cases h : p = 0
      · subst h
        go_wp2_with fail
        go_roundw
        case rel => exact ⟨trivial, .inr (.inl ⟨trivial, by go_num⟩)⟩
        case measure => simp [intOf]
      · have HV : Hid (orF p q = p) := by show orF p q = p; unfold orF; rw [if_neg h]
        go_wp2_with fail
        go_ret
        exact ⟨by rw [HV.out]; rfl, (by repeat (first | exact Ext.refl _ | assumption | exact Ext.alloc _ _ | refine Ext.trans ?_ (by assumption) | refine Ext.trans ?_ (Ext.alloc _ _) | refine Ext.trans ?_ (Ext.drewN _ _) | refine Ext.trans ?_ (Ext.drew _)))⟩
    · by_cases h' : q = 0
      · subst h h'
        go_wp2_with fail
        go_roundw
        case rel => exact ⟨trivial, .inr (.inr ⟨trivial, trivial, by go_num⟩)⟩
        case measure => simp [intOf]
      · have HV : Hid (orF p q = q) := by show orF p q = q; unfold orF; rw [if_pos h]
        go_wp2_with fail
        go_ret
        exact ⟨by rw [HV.out]; rfl, (by repeat (first | exact Ext.refl _ | assumption | exact Ext.alloc _ _ | refine Ext.trans ?_ (by assumption) | refine Ext.trans ?_ (Ext.alloc _ _) | refine Ext.trans ?_ (Ext.drewN _ _) | refine Ext.trans ?_ (Ext.drew _)))⟩
    · have HV : Hid (orF p q = 0) := by show orF p q = 0; unfold orF; rw [if_pos h, h']
      go_wp2_with fail
      go_ret
      exact ⟨by rw [HV.out]; rfl, (by repeat (first | exact Ext.refl _ | assumption | exact Ext.alloc _ _ | refine Ext.trans ?_ (by assumption) | refine Ext.trans ?_ (Ext.alloc _ _) | refine Ext.trans ?_ (Ext.drewN _ _) | refine Ext.trans ?_ (Ext.drew _)))⟩

theorem cmp_parts (m n : Nat) : orF (cmpi ((m / 18446744073709551616 : Nat) : Int) ((n / 18446744073709551616 : Nat) : Int)) (cmpi ((m % 18446744073709551616 : Nat) : Int) ((n % 18446744073709551616 : Nat) : Int)) = sgn ((m : Int) - n) := by
  unfold orF cmpi sgn
  (repeat' split) <;> omega

set_option maxRecDepth 100000 in
set_option maxHeartbeats 1000000 in
theorem products_any (a b c d : Nat) (w : World) (ha : a ≤ 1099511627776) (hb' : b ≤ 1099511627776) (hc' : c ≤ 1099511627776) (hd : d ≤ 1099511627776) :
    Calls Tryd.prog 30 #[I a, I b, I c, I d] w fun e w' => e = .returned (I (sgn ((a : Int) * b - c * d))) ∧ Ext w w' := by
  have HV := Lib.hid (cmp_parts (a * b) (c * d))
  have HM := Lib.hid (fun w => Tryd.bits_Mul64 a b (by omega) (by omega) w)
  have HM2 := Lib.hid (fun w => Tryd.bits_Mul64 c d (by omega) (by omega) w)
  have HN : Hid (((a * b : Nat) : Int) - ((c * d : Nat) : Int) = (a : Int) * b - c * d) := by show _ = _; rw [Int.natCast_mul, Int.natCast_mul]
  rw [HN.out] at HV
  generalize (a : Int) * b - c * d = z at *
  obtain ⟨h1, e1⟩ : ∃ h, ((a * b / 18446744073709551616 : Nat) : Int) = h := ⟨_, rfl⟩
  obtain ⟨l1, e2⟩ : ∃ h, ((a * b % 18446744073709551616 : Nat) : Int) = h := ⟨_, rfl⟩
  obtain ⟨h2, e3⟩ : ∃ h, ((c * d / 18446744073709551616 : Nat) : Int) = h := ⟨_, rfl⟩
  obtain ⟨l2, e4⟩ : ∃ h, ((c * d % 18446744073709551616 : Nat) : Int) = h := ⟨_, rfl⟩
  simp only [e1, e2, e3, e4] at HV HM HM2
  clear HN e1 e2 e3 e4
  generalize hA : (a : Int) = A at *
  generalize hB : (b : Int) = B at *
  generalize hC : (c : Int) = C at *
  generalize hD : (d : Int) = D at *
  have ba : 0 ≤ A ∧ A ≤ 1099511627776 := by omega
  have bb : 0 ≤ B ∧ B ≤ 1099511627776 := by omega
  have bc : 0 ≤ C ∧ C ≤ 1099511627776 := by omega
  have bd : 0 ≤ D ∧ D ≤ 1099511627776 := by omega
  clear hA hB hC hD ha hb' hc' hd
  obtain ⟨a1, a2⟩ := ba
  obtain ⟨b1, b2⟩ := bb
  obtain ⟨c1, c2⟩ := bc
  obtain ⟨d1, d2⟩ := bd
  go_enter Tryd.func30, Tryd.ntmps30
  go_wp2_with (first
    | (go_at_call 39; (first | (with_reducible refine (HM.out _).mono ?_) | (with_reducible refine (HM2.out _).mono ?_)); rintro e w1 ⟨rfl, rfl⟩)
    | (go_at_call 41; (with_reducible refine (cmpu_any _ _ _).mono ?_); rintro e w2 ⟨rfl, hb1⟩; (first | replace hb := Ext.trans hb hb1 | have hb := hb1); clear hb1)
    | (go_at_call 40; refine (or_any (cmpi h1 h2) (cmpi l1 l2) _ _ (by go_simp) (by go_simp)).mono ?_; rintro e w3 ⟨rfl, hb1⟩; replace hb := Ext.trans (Ext.trans hb (Ext.alloc _ _)) hb1; clear hb1))
  go_ret
  exact ⟨by rw [← HV.out]; rfl, hb⟩

theorem cmp_lt {p X Y q U V : Int} (h : p ≠ q) : cmpq p X Y q U V = cmpi p q := by
  unfold cmpq cmpi; (repeat' split) <;> omega
theorem cmp_eq {p X Y U V : Int} : cmpq p X Y p U V = sgn (Y * U - V * X) := by
  unfold cmpq; rw [if_neg (by omega), if_neg (by omega)]
theorem cmpd_is (x y u v : Int) : cmpd x y u v = cmpq (qd (vx x y) (vy x y)) (qx (qd (vx x y) (vy x y)) (vx x y) (vy x y)) (qy (qd (vx x y) (vy x y)) (vx x y) (vy x y)) (qd (vx u v) (vy u v)) (qx (qd (vx u v) (vy u v)) (vx u v) (vy u v)) (qy (qd (vx u v) (vy u v)) (vx u v) (vy u v)) := rfl

set_option maxRecDepth 100000 in
set_option maxHeartbeats 1000000 in
theorem compare_any (x y u v : Int) (w : World) (hx : In63 x) (hy : In63 y) (hu : In63 u) (hv : In63 v) : Calls Tryd.prog 17 #[I x, I y, I u, I v] w fun e w' => e = .returned (I (cmpd x y u v)) ∧ Ext w w' := by
  have HA := Lib.hid (fun w => quarter_any x y w hx hy)
  have HB := Lib.hid (fun w => quarter_any u v w hu hv)
  have HV := Lib.hid (cmpd_is x y u v)
  obtain ⟨⟨a1, a2⟩, a3, a4⟩ := q_facts hx hy
  obtain ⟨⟨b1, b2⟩, b3, b4⟩ := q_facts hu hv
  clear hx hy hu hv
  generalize qx (qd (vx x y) (vy x y)) (vx x y) (vy x y) = X at *
  generalize qy (qd (vx x y) (vy x y)) (vx x y) (vy x y) = Y at *
  generalize qd (vx x y) (vy x y) = p at *
  generalize qx (qd (vx u v) (vy u v)) (vx u v) (vy u v) = U at *
  generalize qy (qd (vx u v) (vy u v)) (vx u v) (vy u v) = V at *
  generalize qd (vx u v) (vy u v) = q at *
  by_cases h : p = q
  · subst h
    have HP : Hid (∀ w, Calls Tryd.prog 30 #[I Y, I U, I V, I X] w fun e w' => e = .returned (I (sgn (Y * U - V * X))) ∧ Ext w w') := fun w => by
      have := products_any Y.toNat U.toNat V.toNat X.toNat w (by omega) (by omega) (by omega) (by omega)
      rw [Int.toNat_of_nonneg a3, Int.toNat_of_nonneg (Int.le_of_lt b1), Int.toNat_of_nonneg b3, Int.toNat_of_nonneg (Int.le_of_lt a1)] at this
      exact this
    have HW : Hid (cmpd x y u v = sgn (Y * U - V * X)) := by show _ = _; rw [HV.out, cmp_eq]
    generalize sgn (Y * U - V * X) = z at *
    clear HV
    go_enter Tryd.func17, Tryd.ntmps17
    go_wp2_with (first
      | (go_at_call 24; (first | (with_reducible refine (HA.out _).mono ?_) | (with_reducible refine (HB.out _).mono ?_)); rintro e w1 ⟨rfl, hb1⟩; (first | replace hb := Ext.trans hb hb1 | have hb := hb1); clear hb1)
      | (go_at_call 30; (with_reducible refine (HP.out _).mono ?_); rintro e w3 ⟨rfl, hb1⟩; replace hb := Ext.trans hb hb1; clear hb1))
    go_ret
    exact ⟨by rw [HW.out]; rfl, hb⟩
  · have HW : Hid (cmpd x y u v = cmpi p q) := by show _ = _; rw [HV.out, cmp_lt h]
    clear HV
    go_enter Tryd.func17, Tryd.ntmps17
    go_wp2_with (first
      | (go_at_call 24; (first | (with_reducible refine (HA.out _).mono ?_) | (with_reducible refine (HB.out _).mono ?_)); rintro e w1 ⟨rfl, hb1⟩; (first | replace hb := Ext.trans hb hb1 | have hb := hb1); clear hb1)
      | (go_at_call 29; (with_reducible refine (cmp_any _ _ _).mono ?_); rintro e w3 ⟨rfl, hb1⟩; replace hb := Ext.trans hb hb1; clear hb1))
    go_ret
    exact ⟨by rw [HW.out]; rfl, hb⟩
end Go.Proofs.YtecpkggnjajppaaDoor
