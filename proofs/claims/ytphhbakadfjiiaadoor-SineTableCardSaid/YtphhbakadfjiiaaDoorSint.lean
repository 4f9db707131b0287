/- The law SineTable: lists that are compared. -/
import Derived.Test.YtphhbakadfjiiaaDoorSinc
namespace Go.Proofs.YtphhbakadfjiiaaDoor
open Go.RowKit

set_option maxRecDepth 100000 in
set_option maxHeartbeats 1000000 in
theorem ints_same (b c n : Nat) (f : Nat → Int) (w : World) (hn : n ≤ 1048576) (hbw : b < w.heap.size) (hcw : c < w.heap.size) (h1 : ∀ i, i < n → w.cell? ⟨b, i, none⟩ = some (I (f i))) (h2 : ∀ i, i < n → w.cell? ⟨c, i, none⟩ = some (I (f i))) :
    Calls Tryd.prog 17 #[.slice (some ⟨b, 0, none⟩) n n, .slice (some ⟨c, 0, none⟩) n n] w fun e w' => e = .returned (.bool true) ∧ Ext w w' := by
  have H1 := Lib.hid h1; clear h1
  have H2 := Lib.hid h2; clear h2
  have hb := Ext.refl w
  go_enter Tryd.func17, Tryd.ntmps17
  go_wp2_with (fail)
  go_loopw [5, 13] (fun x i wr => Ext w wr ∧ ∃ k : Nat, k ≤ n ∧ i = I k) (fun _ i _ => n - (intOf i).toNat)
  case atStart => exact ⟨(by repeat (first | exact Ext.refl _ | assumption | exact Ext.alloc _ _ | refine Ext.trans ?_ (by assumption) | refine Ext.trans ?_ (Ext.alloc _ _) | refine Ext.trans ?_ (Ext.drewN _ _) | refine Ext.trans ?_ (Ext.drew _))), 0, Nat.zero_le _, rfl⟩
  case round =>
    clear hb
    obtain ⟨hb, k, hk, rfl⟩ := hrel
    obtain ⟨hc, hf⟩ := hb.old
    by_cases hlt : k < n
    · have c1 := H1.out k hlt
      have c2 := H2.out k hlt
      obtain ⟨d, hd⟩ : ∃ d, f k = d := ⟨_, rfl⟩
      rw [hd] at c1 c2
      clear hd
      go_wp2_with fail
      go_quiet (fail)
      go_wp2_with fail
      go_roundw
      case rel => exact ⟨(by repeat (first | exact Ext.refl _ | assumption | exact Ext.alloc _ _ | refine Ext.trans ?_ (by assumption) | refine Ext.trans ?_ (Ext.alloc _ _) | refine Ext.trans ?_ (Ext.drewN _ _) | refine Ext.trans ?_ (Ext.drew _))), k + 1, by omega, by go_num⟩
      case measure => simp [intOf]; omega
    · obtain rfl : k = n := by omega
      go_wp2_with fail
      go_ret
      exact ⟨rfl, (by repeat (first | exact Ext.refl _ | assumption | exact Ext.alloc _ _ | refine Ext.trans ?_ (by assumption) | refine Ext.trans ?_ (Ext.alloc _ _) | refine Ext.trans ?_ (Ext.drewN _ _) | refine Ext.trans ?_ (Ext.drew _)))⟩

theorem tab_at {i : Int} (h0 : 0 ≤ i) (h1 : i ≤ 64) : sn (256 * i) = T i ∧ cs (16384 - 256 * i) = T i := by
  have e : qs (256 * i) = T i := by
    obtain ⟨z, hz⟩ : ∃ z : Int, z = 0 := ⟨0, rfl⟩
    have := qs_at (k := i) (f := z) h0 (by omega) (by omega)
    rw [show 256 * i + z = 256 * i by omega] at this
    rw [this, hz]; unfold btw; rw [Int.mul_zero]; generalize T i = x; omega
  have a := (rep_cs (a := 256 * i) (q := 0) (r := 256 * i) (by omega) (by omega) (by omega) (by omega) (by omega)).2
  have b := (rep_cs (a := 16384 - 256 * i) (q := 0) (r := 16384 - 256 * i) (by omega) (by omega) (by omega) (by omega) (by omega)).1
  rw [show 16384 - (16384 - 256 * i) = 256 * i by omega] at b
  rw [a, b, ← e]; exact ⟨rfl, rfl⟩

set_option maxRecDepth 100000 in
set_option maxHeartbeats 1000000 in
theorem table_of (n i : Nat) (x : Int) (w : World) (hT : TabS w) (hn : n ≤ 255) (hi : n % 65 = i) : Calls Tryd.prog 4 #[.int .u8 n, I x] w fun e w' => e = .returned (.bool true) ∧ Ext w w' := by
  have i1 : i < 65 := by omega
  have hii : (n : Int) % 65 = i := by omega
  obtain ⟨t1, t2⟩ := tab_at (i := i) (by omega) (by omega)
  have HT := Lib.hid hT; clear hT
  obtain ⟨d, hd⟩ : ∃ d, T (i : Int) = d := ⟨_, rfl⟩
  rw [hd] at t1 t2
  have HD := Lib.hid hd; clear hd
  have H1 := Lib.hid t1; clear t1
  have H2 := Lib.hid t2; clear t2
  have HI := Lib.hid hi; clear hi
  go_enter Tryd.func4, Tryd.ntmps4
  go_wp2_with (first
    | (go_at_call 11; refine (awake_any _ HT.out).mono ?_; rintro e w1 ⟨rfl, hb1⟩; (first | replace hb := Ext.trans hb hb1 | replace hb := Ext.trans (Ext.trans hb (Ext.drewN _ _)) hb1 | replace hb := Ext.trans (Ext.trans hb (Ext.alloc _ _)) hb1 | have hb := hb1); clear hb1; obtain ⟨hc1, hf1⟩ := hb.old)
    | (go_at_call 16; have hg := hcc; clear hg; replace hb := Ext.set hb (p := ⟨b, i, none⟩) hbz (I x); refine (table_any _ (HT.out.ext hb)).mono ?_; rintro e w3 ⟨b2, hb20, hb21, rfl, hcell2, hx2⟩; replace hb := Ext.trans hb hx2; clear hc1 hf1; obtain ⟨hc1, hf1⟩ := hb.old; have HL2 : Hid (∀ k : Nat, k < 65 → w3.cell? ⟨b2, k, none⟩ = some (I (T k))) := fun k hk => (hcell2 k hk).1; clear hcell2 hcc hcf hcell)
    | (go_at_call 16; refine (table_any _ (HT.out.ext hb)).mono ?_; rintro e w2 ⟨b, hb0, hb1, rfl, hcell, hx⟩; have hbz := Nat.le_trans hb.size hb0; have hcc := (hcell i i1).1; have hcf := (hcell i i1).2; replace hb := Ext.trans hb hx; obtain ⟨hc1, hf1⟩ := hb.old; rw [HD.out] at hcc)
    | (go_at_call 18; refine (rtable_any _).mono ?_; rintro e w4 ⟨b3, hb30, hb31, rfl, hcell3, hx3⟩; replace hb := Ext.trans hb hx3; clear hc1 hf1; obtain ⟨hc1, hf1⟩ := hb.old; have HL3 : Hid (∀ k : Nat, k < 65 → w4.cell? ⟨b3, k, none⟩ = some (I (T k))) := fun k hk => (hcell3 k hk).1; have HL4 : Hid (∀ k : Nat, k < 65 → w4.cell? ⟨b2, k, none⟩ = some (I (T k))) := fun k hk => (hx3.old.1 b2 k hb21).trans (HL2.out k hk); replace hb21 := Nat.lt_of_lt_of_le hb21 hx3.size; clear hcell3 HL2)
    | (go_at_call 17; refine (ints_same b2 b3 65 (fun k => T k) _ (by omega) hb21 hb31 HL4.out HL3.out).mono ?_; rintro e w5 ⟨rfl, hx5⟩; replace hb := Ext.trans hb hx5; clear hc1 hf1; obtain ⟨hc1, hf1⟩ := hb.old; have hd2 := (hx5.old.1 b2 i hb21).trans (HL4.out i i1); rw [HD.out] at hd2)
    | (go_at_call 15; (with_reducible refine (sin_is (256 * (i : Int)) d _ (HT.out.ext hb) H1.out).mono ?_); rintro e w6 ⟨rfl, hx6⟩; replace hb := Ext.trans hb hx6)
    | (go_at_call 14; (with_reducible refine (cos_is (16384 - 256 * (i : Int)) d _ (HT.out.ext hb) H2.out).mono ?_); rintro e w7 ⟨rfl, hx7⟩; replace hb := Ext.trans hb hx7))
  go_ret
  exact ⟨rfl, hb⟩
theorem table_law (n x : Int) (w : World) (hT : TabS w) (hn : 0 ≤ n ∧ n ≤ 255) : Calls Tryd.prog 4 #[.int .u8 n, I x] w fun e w' => e = .returned (.bool true) ∧ Ext w w' := by
  obtain ⟨m, rfl⟩ := Int.eq_ofNat_of_zero_le hn.1
  exact table_of m (m % 65) x w hT (by omega) rfl
end Go.Proofs.YtphhbakadfjiiaaDoor
