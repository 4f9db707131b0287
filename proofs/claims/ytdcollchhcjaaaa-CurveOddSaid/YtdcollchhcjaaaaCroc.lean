/- The law CurveOdd: it returns true. -/
import Derived.Test.YtdcollchhcjaaaaCrob
import Derived.Test.YtdcollchhcjaaaaCry
namespace Go.Proofs.Ytdcollchhcjaaaa
open Go Go.RowKit

set_option maxRecDepth 100000 in
set_option maxHeartbeats 1000000 in
theorem rodd_shape {w : World} (A B : Option Addr) (n c m e : Nat) (h : n ≠ m ∨ n = 0) (hn : n ≤ 100) (hm : m ≤ 100) :
    Calls Try.prog 28 #[.slice A n c, .slice B m e] w fun e' w' => e' = .returned (.tuple #[cv none 0 0 none 0 0, I 11]) ∧ Ext w w' := by
  by_cases q : n = m
  · subst q
    obtain rfl : n = 0 := by omega
    clear h
    go_enter Try.func28, Try.ntmps28
    go_wp2_with fail
    exact bodyPost_ret (v := .tuple #[cv none 0 0 none 0 0, I 11]) (by simp [results, Try.results28, go_sem]) rfl ⟨rfl, (by repeat (first | exact Ext.refl _ | assumption | exact Ext.alloc _ _ | refine Ext.trans ?_ (by assumption) | refine Ext.trans ?_ (Ext.alloc _ _) | refine Ext.trans ?_ (Ext.drewN _ _) | refine Ext.trans ?_ (Ext.drew _)))⟩
  · clear h
    go_enter Try.func28, Try.ntmps28
    go_wp2_with fail
    exact bodyPost_ret (v := .tuple #[cv none 0 0 none 0 0, I 11]) (by simp [results, Try.results28, go_sem]) rfl ⟨rfl, (by repeat (first | exact Ext.refl _ | assumption | exact Ext.alloc _ _ | refine Ext.trans ?_ (by assumption) | refine Ext.trans ?_ (Ext.alloc _ _) | refine Ext.trans ?_ (Ext.drewN _ _) | refine Ext.trans ?_ (Ext.drew _)))⟩
set_option maxRecDepth 100000 in
set_option maxHeartbeats 1000000 in
theorem rodd_large {w : World} (A B : Option Addr) (n c e : Nat) (h : 15 < n) (hn : n ≤ 100) :
    Calls Try.prog 28 #[.slice A n c, .slice B n e] w fun e' w' => e' = .returned (.tuple #[cv none 0 0 none 0 0, I 4]) ∧ Ext w w' := by
  have hz : ((n : Int) == 0) = false := by simp; omega
  have hz2 : decide (n = 0) = false := by simp; omega
  have h15 : (15 : Int) < (n : Int) := by omega
  go_enter Try.func28, Try.ntmps28
  go_wp2_with fail
  exact bodyPost_ret (v := .tuple #[cv none 0 0 none 0 0, I 4]) (by simp [results, Try.results28, go_sem]) rfl ⟨rfl, (by repeat (first | exact Ext.refl _ | assumption | exact Ext.alloc _ _ | refine Ext.trans ?_ (by assumption) | refine Ext.trans ?_ (Ext.alloc _ _) | refine Ext.trans ?_ (Ext.drewN _ _) | refine Ext.trans ?_ (Ext.drew _)))⟩

set_option maxRecDepth 100000 in
set_option maxHeartbeats 1000000 in
theorem oddl_long {w : World} (A B : Option Addr) (n c m e : Nat) (x : Int) (h : 100 < n ∨ 100 < m) (hn : n ≤ maxLen) (hm : m ≤ maxLen) :
    Calls Try.prog 10 #[.slice A n c, .slice B m e, I x] w fun e' w' => e' = .returned (.bool true) ∧ Ext w w' := by
  unfold maxLen at hn hm
  by_cases h1 : 100 < n
  · have h2 : (100 : Int) < (n : Int) := by omega
    go_enter Try.func10, Try.ntmps10
    go_wp2_with ((go_at_call 14; refine (awake_any _).mono ?_; rintro e w1 ⟨rfl, hb1⟩; (first | replace hb := Ext.trans hb hb1 | replace hb := Ext.trans (Ext.trans hb (Ext.drewN _ _)) hb1 | replace hb := Ext.trans (Ext.trans hb (Ext.alloc _ _)) hb1 | have hb := hb1); clear hb1; obtain ⟨hc1, hf1⟩ := hb.old))
    go_ret
    exact ⟨rfl, (by repeat (first | exact Ext.refl _ | assumption | exact Ext.alloc _ _ | refine Ext.trans ?_ (by assumption) | refine Ext.trans ?_ (Ext.alloc _ _) | refine Ext.trans ?_ (Ext.drewN _ _) | refine Ext.trans ?_ (Ext.drew _)))⟩
  · have h2 : ¬ (100 : Int) < (n : Int) := by omega
    have h3 : (100 : Int) < (m : Int) := by omega
    go_enter Try.func10, Try.ntmps10
    go_wp2_with ((go_at_call 14; refine (awake_any _).mono ?_; rintro e w1 ⟨rfl, hb1⟩; (first | replace hb := Ext.trans hb hb1 | replace hb := Ext.trans (Ext.trans hb (Ext.drewN _ _)) hb1 | replace hb := Ext.trans (Ext.trans hb (Ext.alloc _ _)) hb1 | have hb := hb1); clear hb1; obtain ⟨hc1, hf1⟩ := hb.old))
    go_ret
    exact ⟨rfl, (by repeat (first | exact Ext.refl _ | assumption | exact Ext.alloc _ _ | refine Ext.trans ?_ (by assumption) | refine Ext.trans ?_ (Ext.alloc _ _) | refine Ext.trans ?_ (Ext.drewN _ _) | refine Ext.trans ?_ (Ext.drew _)))⟩

set_option maxRecDepth 100000 in
set_option maxHeartbeats 1000000 in
theorem oddl_err {w : World} (A B : Option Addr) (n c m e : Nat) (x k : Int) (hk : k ≠ 0) (hn : n ≤ 100) (hm : m ≤ 100)
    (hs : ∀ w', Ext w w' → EmF 27 #[.slice A n c, .slice B m e] (.iface 51 (I k)) w') (hr : ∀ w', Ext w w' → EmF 28 #[.slice A n c, .slice B m e] (I k) w') :
    Calls Try.prog 10 #[.slice A n c, .slice B m e, I x] w fun e' w' => e' = .returned (.bool true) ∧ Ext w w' := by
  have h2 : ¬ (100 : Int) < (n : Int) := by omega
  have h3 : ¬ (100 : Int) < (m : Int) := by omega
  have HC := Lib.hid hs
  have HS := Lib.hid hr
  have HE := Lib.hid (fun w' => same_true (w := w') (A := none) (B := none) (A' := none) (B' := none) (n := 0) (c := 0) (e := 0) (c' := 0) (e' := 0) (X := fun _ => 0) (Y := fun _ => 0) (by omega) Ri.none_ Ri.none_ Ri.none_ Ri.none_)
  have hq : (k != 0) = true := by simpa using hk
  have hd : decide (k = 0) = false := by simpa using hk
  clear hs hr hn hm
  go_enter Try.func10, Try.ntmps10
  go_wp2_with (first
    | (go_at_call 14; refine (awake_any _).mono ?_; rintro e w1 ⟨rfl, hb1⟩; (first | replace hb := Ext.trans hb hb1 | replace hb := Ext.trans (Ext.trans hb (Ext.drewN _ _)) hb1 | replace hb := Ext.trans (Ext.trans hb (Ext.alloc _ _)) hb1 | have hb := hb1); clear hb1; obtain ⟨hc1, hf1⟩ := hb.old)
    | (go_at_call 27; (with_reducible refine (HC.out _ hb).mono ?_); rintro e1 w3 ⟨rfl, hx3⟩; have HE3 := Lib.hid (hb.trans hx3); clear hb hx3)
    | (go_at_call 28; (with_reducible refine (HS.out _ (HE3.out.trans (Ext.alloc _ _))).mono ?_); rintro e1 w4 ⟨rfl, hx4⟩; have x5 := (B2.new w3 (.slice none 0 0) (.slice none 0 0) 24).ext hx4; have HE4 := Lib.hid ((HE3.out.trans (Ext.alloc _ _)).trans hx4); have l4 := x5.lt; have q5 := x5; obtain ⟨⟨c0, c1⟩, cf⟩ := q5; clear hx4)
    | (go_at_call 16; (with_reducible refine (num_err _ _).mono ?_); rintro e1 w5 ⟨rfl, hx5⟩; have y5 := (x5.ext (Ext.alloc _ _)).ext hx5; have y8 := (B2.new w4 (.slice none 0 0) (.slice none 0 0) 24).ext hx5; have HE5 := Lib.hid ((HE4.out.trans (Ext.alloc _ _)).trans hx5); have q5 := y5; have q8 := y8; clear c0 c1 cf; obtain ⟨⟨c0, c1⟩, cf⟩ := q5; obtain ⟨⟨d0, d1⟩, df⟩ := q8; clear hx5)
    | (go_at_call 29; (with_reducible refine (HE.out _).mono ?_); rintro e1 w6 ⟨rfl, hx6⟩; have z5 := y5.ext hx6; have HE6 := Lib.hid (HE5.out.trans hx6); have q5 := z5; clear c0 c1 cf d0 d1 df; obtain ⟨⟨c0, c1⟩, cf⟩ := q5; clear hx6))
  go_ret
  exact ⟨rfl, HE6.out⟩

set_option maxRecDepth 100000 in
set_option maxHeartbeats 1000000 in
theorem oddl_ok {w : World} (A B : Option Addr) (n c m e N : Nat) (x : Int) {X Y : Nat → Int} (hn : n ≤ 100) (hm : m ≤ 100) (hN0 : 0 < N) (hz : chk N N X Y = 0) (hodd : ∀ z, atv N X Y (-z) = -atv N X Y z)
    (hs : ∀ w', Ext w w' → Calls Try.prog 27 #[.slice A n c, .slice B m e] w' (CvOk N X Y .nilIface w')) (hr : ∀ w', Ext w w' → Calls Try.prog 28 #[.slice A n c, .slice B m e] w' (CvOk N X Y (I 0) w')) :
    Calls Try.prog 10 #[.slice A n c, .slice B m e, I x] w fun e' w' => e' = .returned (.bool true) ∧ Ext w w' := by
  have h2 : ¬ (100 : Int) < (n : Int) := by omega
  have h3 : ¬ (100 : Int) < (m : Int) := by omega
  have HC := Lib.hid hs
  have HS := Lib.hid hr
  have HNN := Lib.hid (show 0 < N ∧ N ≤ 1000 by have := (crv_of hz).2.le; omega)
  have HNE := Lib.hid (fun w' => near_any x w')
  obtain ⟨z, hzz⟩ : ∃ z, nr x = z := ⟨_, rfl⟩
  obtain ⟨b1, b2⟩ := nr_bd x
  rw [hzz] at b1 b2 HNE
  have hab := atv_bd (crv_of hz).2 z
  have hy0 := (crv_of hz).2.bY 0 (by omega)
  have hy1 := (crv_of hz).2.bY (N - 1) (by omega)
  have ho := hodd z
  obtain ⟨a, ha⟩ : ∃ a, atv N X Y z = a := ⟨_, rfl⟩
  rw [ha] at ho hab
  have HA1 : Hid (∀ (w' : World) (gA ca gB cb : Nat), Ri w' (some ⟨gA, 0, none⟩) N X → Ri w' (some ⟨gB, 0, none⟩) N Y → Calls Try.prog 19 #[cw gA 0 ca gB 0 cb N, I z] w' fun e' w'' => e' = .returned (.tuple #[I a, .nilIface]) ∧ Ext w' w'') := fun w' gA ca gB cb ra rb => by
    obtain ⟨_, ga, oa, gb, ob, q1, q2, r⟩ := cur_of' hz ra rb
    cases q1; cases q2
    rw [← ha]
    exact at_ok hz r z (by omega)
  have HA2 : Hid (∀ (w' : World) (gA ca gB cb : Nat), Ri w' (some ⟨gA, 0, none⟩) N X → Ri w' (some ⟨gB, 0, none⟩) N Y → Calls Try.prog 19 #[cw gA 0 ca gB 0 cb N, I (-z)] w' fun e' w'' => e' = .returned (.tuple #[I (-a), .nilIface]) ∧ Ext w' w'') := fun w' gA ca gB cb ra rb => by
    obtain ⟨_, ga, oa, gb, ob, q1, q2, r⟩ := cur_of' hz ra rb
    cases q1; cases q2
    rw [← ho]
    exact at_ok hz r (-z) (by omega)
  have a1 : -1073741824 ≤ a := by omega
  have a2 : a ≤ 1073741824 := by omega
  clear hs hr hn hm hz hodd hzz hab hy0 hy1 ho ha hN0
  go_enter Try.func10, Try.ntmps10
  go_wp2_with (first
    | (go_at_call 14; refine (awake_any _).mono ?_; rintro e w1 ⟨rfl, hb1⟩; (first | replace hb := Ext.trans hb hb1 | replace hb := Ext.trans (Ext.trans hb (Ext.drewN _ _)) hb1 | replace hb := Ext.trans (Ext.trans hb (Ext.alloc _ _)) hb1 | have hb := hb1); clear hb1; obtain ⟨hc1, hf1⟩ := hb.old)
    | (go_at_call 27; (with_reducible refine (HC.out _ hb).mono ?_); rintro e1 w3 ⟨gA, ca, gB, cb, rfl, ⟨lA, lB⟩, rA, rB, hx3⟩; have HE3 := Lib.hid (hb.trans hx3); have RA3 := Lib.hid rA; have RB3 := Lib.hid rB; clear rA rB lA lB; clear hb hx3)
    | (go_at_call 28; (with_reducible refine (HS.out _ (HE3.out.trans (Ext.alloc _ _))).mono ?_); rintro e1 w4 ⟨gS, cs, gT, ct, rfl, ⟨lS, lT⟩, rS, rT, hx4⟩; have x5 := (B2.new w3 (.slice (some ⟨gA, 0, none⟩) N ca) (.slice (some ⟨gB, 0, none⟩) N cb) 24).ext hx4; have HE4 := Lib.hid ((HE3.out.trans (Ext.alloc _ _)).trans hx4); have l4 := x5.lt; have RA4 := Lib.hid ((RA3.out.ext (Ext.alloc w3 _)).ext hx4); have RB4 := Lib.hid ((RB3.out.ext (Ext.alloc w3 _)).ext hx4); have RS4 := Lib.hid rS; have RT4 := Lib.hid rT; clear rS rT lS lT; have q5 := x5; obtain ⟨⟨c0, c1⟩, cf⟩ := q5; clear hx4)
    | (go_at_call 16; (with_reducible refine (num_nil _).mono ?_); rintro e1 w5 ⟨rfl, hx5⟩; have y5 := (x5.ext (Ext.alloc _ _)).ext hx5; have y8 := (B2.new w4 (.slice (some ⟨gS, 0, none⟩) N cs) (.slice (some ⟨gT, 0, none⟩) N ct) 24).ext hx5; have HE5 := Lib.hid ((HE4.out.trans (Ext.alloc _ _)).trans hx5); have RA5 := Lib.hid ((RA4.out.ext (Ext.alloc w4 _)).ext hx5); have RB5 := Lib.hid ((RB4.out.ext (Ext.alloc w4 _)).ext hx5); have RS5 := Lib.hid ((RS4.out.ext (Ext.alloc w4 _)).ext hx5); have RT5 := Lib.hid ((RT4.out.ext (Ext.alloc w4 _)).ext hx5); have q5 := y5; have q8 := y8; clear c0 c1 cf; obtain ⟨⟨c0, c1⟩, cf⟩ := q5; obtain ⟨⟨d0, d1⟩, df⟩ := q8; clear hx5)
    | (go_at_call 29; (with_reducible refine (same_true HNN.out.2 RA5.out RB5.out RS5.out RT5.out).mono ?_); rintro e1 w6 ⟨rfl, hx6⟩; have z5 := y5.ext hx6; have HE6 := Lib.hid (HE5.out.trans hx6); have RA6 := Lib.hid (RA5.out.ext hx6); have RB6 := Lib.hid (RB5.out.ext hx6); have q5 := z5; clear c0 c1 cf d0 d1 df; obtain ⟨⟨c0, c1⟩, cf⟩ := q5; clear hx6)
    | (go_at_call 25; (with_reducible refine (HNE.out _).mono ?_); rintro e1 w7 ⟨rfl, hx7⟩; have k5 := z5.ext hx7; have HE7 := Lib.hid (HE6.out.trans hx7); have RA7 := Lib.hid (RA6.out.ext hx7); have RB7 := Lib.hid (RB6.out.ext hx7); have q5 := k5; clear c0 c1 cf; obtain ⟨⟨c0, c1⟩, cf⟩ := q5; clear hx7)
    | (go_at_call 19; (with_reducible refine (HA1.out _ _ _ _ _ RA7.out RB7.out).mono ?_); rintro e1 w8 ⟨rfl, hx8⟩; have m5 := k5.ext hx8; have HE8 := Lib.hid (HE7.out.trans hx8); have RA8 := Lib.hid (RA7.out.ext hx8); have RB8 := Lib.hid (RB7.out.ext hx8); have q5 := m5; clear c0 c1 cf; obtain ⟨⟨c0, c1⟩, cf⟩ := q5; clear hx8)
    | (go_at_call 19; (with_reducible refine (HA2.out _ _ _ _ _ RA8.out RB8.out).mono ?_); rintro e1 w9 ⟨rfl, hx9⟩; have HE9 := Lib.hid (HE8.out.trans hx9); clear c0 c1 cf hx9))
  go_ret
  exact ⟨rfl, HE9.out⟩

theorem oddl_top {w : World} {A B : Option Addr} {n c m e : Nat} {X Y : Nat → Int} {x : Int} (hn : n ≤ maxLen) (hm : m ≤ maxLen) (ra : Ri w A n X) (rb : Ri w B m Y)
    (wx : ∀ i, i < n → X i ≤ 9223372036854775807) (wy : ∀ i, i < m → Y i ≤ 9223372036854775807) :
    Calls Try.prog 10 #[.slice A n c, .slice B m e, I x] w fun e' w' => e' = .returned (.bool true) ∧ Ext w w' := by
  by_cases h : 100 < n ∨ 100 < m
  · exact oddl_long A B n c m e x h hn hm
  · have hn1 : n ≤ 100 := by omega
    have hm1 : m ≤ 100 := by omega
    by_cases h1 : n ≠ m ∨ n = 0
    · exact oddl_err A B n c m e x 11 (by decide) hn1 hm1 (fun w' _ => odd_bad A B n c m e fun w'' _ => half_shape A B n c m e h1 hn hm) (fun w' _ => rodd_shape A B n c m e h1 hn1 hm1)
    · obtain rfl : n = m := by omega
      by_cases h2 : 15 < n
      · exact oddl_err A B n c n e x 4 (by decide) hn1 hm1 (fun w' _ => odd_bad A B n c n e fun w'' _ => half_large A B n c e h2 hn) (fun w' _ => rodd_large A B n c e h2 hn1)
      · have h0 : 0 < n := by omega
        have h15 : n ≤ 15 := by omega
        obtain ⟨ba, oa, rfl, hba, ca⟩ := ra h0
        obtain ⟨bb, ob, rfl, hbb, cb⟩ := rb h0
        have r : Cur w ba oa bb ob n X Y := ⟨hba, hbb, ca, cb⟩
        have bx : ∀ i, i < n → X i ≤ 9223372036854775807 ∧ Y i ≤ 9223372036854775807 := fun i hi => ⟨wx i hi, wy i hi⟩
        by_cases hg : ∀ i, i < n → 0 < X i ∧ 0 ≤ Y i
        · have hr : ∀ w', Ext w w' → Calls Try.prog 28 #[.slice (some ⟨ba, oa, none⟩) n c, .slice (some ⟨bb, ob, none⟩) n e] w' (OdPost n X Y (I 0) (fun k => I k) w') := fun w' z => (rodd_in (r.ext z) h0 h15 bx).mono fun _ _ p => by
            rcases p with ⟨⟨i, hi, hb⟩, _⟩ | p
            · have := hg i hi; exact absurd hb (by omega)
            · exact p.2
          by_cases hz : chk (2 * n + 1) (2 * n + 1) (od n X) (od n Y) = 0
          · refine oddl_ok _ _ n c n e (2 * n + 1) x hn1 hm1 (by omega) hz (fun z => atv_odd (crv_of hz).2 z) (fun w' z => (odd_in (r.ext z) h0 h15 hg bx).mono fun _ _ p => ?_) (fun w' z => (hr w' z).mono fun _ _ p => ?_)
            all_goals
              rcases p with p | p
              · exact p.2
              · exact absurd hz p.1
          · refine oddl_err _ _ n c n e x _ hz hn1 hm1 (fun w' z => (odd_in (r.ext z) h0 h15 hg bx).mono fun _ _ p => ?_) (fun w' z => (hr w' z).mono fun _ _ p => ?_)
            all_goals
              rcases p with p | p
              · exact absurd p.1 hz
              · exact p.2
        · refine oddl_err _ _ n c n e x 2 (by decide) hn1 hm1 (fun w' z => odd_bad _ _ n c n e fun w'' z2 => (half_in h0 h15 ((r.ext (z.trans z2)).ra) ((r.ext (z.trans z2)).rb)).mono fun _ _ p => ?_) (fun w' z => (rodd_in (r.ext z) h0 h15 bx).mono fun _ _ p => ?_)
          all_goals
            rcases p with p | p
            · exact p.2
            · exact absurd p.1 hg
theorem oddl_card {w : World} {A B : Option Addr} {n c m e : Nat} {X Y : Nat → Int} {x : Int} (hn : n ≤ maxLen) (ra : Ri w A n X) (wx : ∀ i, i < n → -9223372036854775808 ≤ X i ∧ X i ≤ 9223372036854775807)
    (hm : m ≤ maxLen) (rb : Ri w B m Y) (wy : ∀ i, i < m → -9223372036854775808 ≤ Y i ∧ Y i ≤ 9223372036854775807) (_hx : -9223372036854775808 ≤ x ∧ x ≤ 9223372036854775807) :
    Calls Try.prog 10 #[.slice A n c, .slice B m e, I x] w fun e' w' => e' = .returned (.bool true) ∧ Ext w w' :=
  oddl_top hn hm ra rb (fun i hi => (wx i hi).2) (fun i hi => (wy i hi).2)
end Go.Proofs.Ytdcollchhcjaaaa
