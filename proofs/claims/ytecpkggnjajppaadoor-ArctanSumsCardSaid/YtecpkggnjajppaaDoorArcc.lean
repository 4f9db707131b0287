/- Contracts of package arctan: the quarters. -/
import Derived.Test.YtecpkggnjajppaaDoorArcb
namespace Go.Proofs.YtecpkggnjajppaaDoor
open Go.RowKit

theorem qd_is {x y : Int} : (0 < x → 0 ≤ y → qd x y = 0) ∧ (x ≤ 0 → 0 < y → qd x y = 1) ∧ (x < 0 → y ≤ 0 → qd x y = 2) ∧ (0 ≤ x → y < 0 → qd x y = 3) := by
  unfold qd; refine ⟨fun _ _ => ?_, fun _ _ => ?_, fun _ _ => ?_, fun _ _ => ?_⟩ <;> (repeat' split) <;> omega
theorem q_split {x y : Int} (h : ¬ (x = 0 ∧ y = 0)) : (0 < x ∧ 0 ≤ y) ∨ (x ≤ 0 ∧ 0 < y) ∨ (x < 0 ∧ y ≤ 0) ∨ (0 ≤ x ∧ y < 0) := by omega

set_option maxHeartbeats 400000 in
theorem rquarter_any (x y : Int) (w : World) (h : ¬ (x = 0 ∧ y = 0)) : Calls Tryd.prog 27 #[I x, I y] w fun e w' => e = .returned (I (qd x y)) ∧ Ext w w' := by
  obtain ⟨q0, q1, q2, q3⟩ := qd_is (x := x) (y := y)
  rcases q_split h with ⟨hx, hy⟩ | ⟨hx, hy⟩ | ⟨hx, hy⟩ | ⟨hx, hy⟩
  · have HV := Lib.hid (q0 hx hy)
    clear q0 q1 q2 q3 h
    go_enter Tryd.func27, Tryd.ntmps27
    go_wp2
    go_ret
    exact ⟨by rw [HV.out]; rfl, Ext.refl _⟩
  · have HV := Lib.hid (q1 hx hy)
    have h1 : ¬ 0 < x := by omega
    clear q0 q1 q2 q3 h
    go_enter Tryd.func27, Tryd.ntmps27
    go_wp2
    go_ret
    exact ⟨by rw [HV.out]; rfl, Ext.refl _⟩
  · have HV := Lib.hid (q2 hx hy)
    have h1 : ¬ 0 < x := by omega
    have h2 : ¬ 0 < y := by omega
    have h3 : x ≤ 0 := by omega
    clear q0 q1 q2 q3 h
    go_enter Tryd.func27, Tryd.ntmps27
    go_wp2
    go_ret
    exact ⟨by rw [HV.out]; rfl, Ext.refl _⟩
  · have HV := Lib.hid (q3 hx hy)
    have h1 : ¬ 0 ≤ y := by omega
    have h2 : ¬ 0 < y := by omega
    have h3 : ¬ x < 0 := by omega
    clear q0 q1 q2 q3 h
    by_cases h4 : 0 < x
    · have h5 : ¬ x ≤ 0 := by omega
      go_enter Tryd.func27, Tryd.ntmps27
      go_wp2
      go_ret
      exact ⟨by rw [HV.out]; rfl, Ext.refl _⟩
    · have h5 : x ≤ 0 := by omega
      go_enter Tryd.func27, Tryd.ntmps27
      go_wp2
      go_ret
      exact ⟨by rw [HV.out]; rfl, Ext.refl _⟩

theorem tuple3 {a b c d e f : Int} (h : a = d) (h' : b = e) (h'' : c = f) : (Ending.returned (.tuple #[I a, I b, I c])) = .returned (.tuple #[I d, I e, I f]) := by rw [h, h', h'']
/-- A turn back by a quarter, as long as the vector is not in the first one. -/
theorem qx_step {q x y : Int} (h0 : 0 ≤ q) (h1 : q ≤ 2) : qx (q + 1) x y = qy q x y ∧ qy (q + 1) x y = -qx q x y := by
  obtain rfl | rfl | rfl : q = 0 ∨ q = 1 ∨ q = 2 := by omega
  all_goals simp [qx, qy]
theorem qd_not {q x y : Int} (h0 : 0 ≤ q) (h1 : q < qd x y) : ¬ (0 < qx q x y ∧ 0 ≤ qy q x y) := by
  intro ⟨a, b⟩
  have := qd_of h0 (by have := qd_bd x y; omega) a b
  omega

set_option maxRecDepth 100000 in
set_option maxHeartbeats 1000000 in
theorem quarter_any (x y : Int) (w : World) (hx : In63 x) (hy : In63 y) : Calls Tryd.prog 24 #[I x, I y] w fun e w' => e = .returned (.tuple #[I (qd (vx x y) (vy x y)), I (qx (qd (vx x y) (vy x y)) (vx x y) (vy x y)), I (qy (qd (vx x y) (vy x y)) (vx x y) (vy x y))]) ∧ Ext w w' := by
  have HS := Lib.hid (fun w => short_any x y w hx hy)
  obtain ⟨b1, b2⟩ := v_bd hx hy
  have hne := v_ne (x := x) (y := y)
  generalize vx x y = u at *
  generalize vy x y = v at *
  obtain ⟨q0, q1⟩ := qd_bd u v
  have HP := Lib.hid (qd_pos hne)
  have HN : Hid (∀ q, 0 ≤ q → q < qd u v → ¬ (0 < qx q u v ∧ 0 ≤ qy q u v)) := fun q a b => qd_not a b
  have HB : Hid (∀ q, (-1099511627776 ≤ qx q u v ∧ qx q u v ≤ 1099511627776) ∧ -1099511627776 ≤ qy q u v ∧ qy q u v ≤ 1099511627776) := fun q => q_bd b1 b2
  have HZ : Hid (u = qx 0 u v ∧ v = qy 0 u v) := ⟨rfl, rfl⟩
  generalize qd u v = p at *
  clear hne hx hy
  go_enter Tryd.func24, Tryd.ntmps24
  go_wp2_with (first | (go_at_call 35; refine (HS.out _).mono ?_; rintro e w1 ⟨rfl, hb⟩; obtain ⟨hc1, hf1⟩ := hb.old))
  have HF := Lib.hid hb
  clear hb hc1 hf1
  go_loopw [4, 5, 6] (fun a b c wr => w1 = wr ∧ ∃ q : Int, 0 ≤ q ∧ q ≤ p ∧ a = I q ∧ b = I (qx q u v) ∧ c = I (qy q u v)) (fun a _ _ _ => (p - intOf a).toNat)
  case atStart => exact ⟨rfl, 0, by omega, by omega, rfl, by rw [← HZ.out.1], by rw [← HZ.out.2]⟩
  case round =>
    obtain ⟨rfl, q, h0, h1, rfl, rfl, rfl⟩ := hrel
    by_cases h : q < p
    · have hn := HN.out q h0 h
      obtain ⟨⟨c1, c2⟩, c3, c4⟩ := HB.out q
      have HQ := Lib.hid (qx_step (q := q) (x := u) (y := v) h0 (by omega))
      generalize qx q u v = X at *
      generalize qy q u v = Y at *
      have h5 : X ≤ 0 ∨ (¬ X ≤ 0 ∧ Y < 0) := by omega
      clear hn
      rcases h5 with h5 | ⟨h5, h6⟩
      all_goals
        go_wp2_with fail
        go_roundw
        case rel => exact ⟨trivial, q + 1, by omega, by omega, by go_num, by rw [HQ.out.1], by rw [HQ.out.2]⟩
        case measure => simp [intOf]; omega
    · obtain rfl : q = p := by omega
      obtain ⟨h5, h6⟩ := HP.out
      generalize hX : qx q u v = X at *
      generalize hY : qy q u v = Y at *
      have HX := Lib.hid hX; clear hX
      have HY := Lib.hid hY; clear hY
      have h7 : ¬ X ≤ 0 := by omega
      have h8 : ¬ Y < 0 := by omega
      go_wp2_with fail
      go_ret3
      exact ⟨tuple3 rfl HX.out.symm HY.out.symm, HF.out⟩
end Go.Proofs.YtecpkggnjajppaaDoor
