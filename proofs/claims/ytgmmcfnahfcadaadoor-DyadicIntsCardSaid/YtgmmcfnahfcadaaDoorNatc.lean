/- Functions on natural numbers, part 3: sums. -/
import Derived.Test.YtgmmcfnahfcadaaDoorRow
namespace Go.Proofs.YtgmmcfnahfcadaaDoor
open Go.RowKit

def AddPost (w : World) (base g N C o n : Nat) (F f : Nat → Nat) (e : Ending) (w' : World) : Prop :=
  ∃ (F' : Nat → Nat) (cy : Nat), e = .returned (U4 cy) ∧ Row w' base g N C F' ∧ w.grownBy w' (some g) ∧ (∀ i, i < N → F' i < 4294967296) ∧ (∀ i, i < o ∨ o + n ≤ i → F' i = F i) ∧ cy ≤ 1 ∧
    valN (fun i => F' (o + i)) n + cy * pB n = valN (fun i => F (o + i)) n + valN f n

set_option maxRecDepth 100000 in
set_option maxHeartbeats 1000000 in
theorem addTo_any (base g N C o n c cb : Nat) (F f : Nat → Nat) (B : Option Addr) (w : World) (hrow : Row w base g N C F) (ho : o + n ≤ N) (hN : N ≤ 1099511627776) (hB : Rd w B n f) (hne : 0 < n → ∀ a, B = some a → a.block ≠ g)
    (hF : ∀ i, i < N → F i < 4294967296) (hf : ∀ i, i < n → f i < 4294967296) :
    Calls Tryd.prog 102 #[.slice (some ⟨g, o, none⟩) n c, .slice B n cb] w (AddPost w base g N C o n F f) := by
  have HB := Lib.hid hB; clear hB
  have HN := Lib.hid hne; clear hne
  have HF := Lib.hid hF; clear hF
  have Hf := Lib.hid hf; clear hf
  go_enter Tryd.func102, Tryd.ntmps102
  go_wp2
  go_loopw [5, 9] (fun sc si wr => ∃ (k cy : Nat) (F' : Nat → Nat), k ≤ n ∧ si = I k ∧ sc = U4 cy ∧ cy ≤ 1 ∧ Hid (Row wr base g N C F') ∧ w.grownBy wr (some g) ∧ Hid (∀ i, i < N → F' i < 4294967296) ∧ Hid (∀ i, i < o ∨ o + k ≤ i → F' i = F i) ∧
      Hid (valN (fun i => F' (o + i)) k + cy * pB k = valN (fun i => F (o + i)) k + valN f k)) (fun _ si _ => n - (intOf si).toNat)
  case atStart => exact ⟨0, 0, F, Nat.zero_le _, rfl, rfl, by omega, hrow, fr_refl _ _, HF.out, (fun _ _ => rfl), by show _ = _; simp [valN]⟩
  case round =>
    obtain ⟨k, cy, F', hk, rfl, rfl, hcy, hrw, hfr, hFb, hFo, hv⟩ := hrel
    by_cases hlt : k < n
    · obtain ⟨b2, o2, rfl, hb2, c2⟩ := (HB.out.fr hfr (HN.out (by omega))).at_ hlt
      have hbg : b2 ≠ g := HN.out (by omega) _ rfl
      have c1 := hrw.out.cell (k := o + k) (by omega)
      have f1 := hrw.out.frozen (o + k)
      have hx := hFb.out (o + k) (by omega)
      have hy := Hf.out k hlt
      have hFk : Hid (F' (o + k) = F (o + k)) := hFo.out (o + k) (by omega)
      obtain ⟨x, hxe⟩ : ∃ x, F' (o + k) = x := ⟨_, rfl⟩
      obtain ⟨y, hye⟩ : ∃ y, f k = y := ⟨_, rfl⟩
      rw [hxe] at c1 hx
      rw [hye] at c2 hy
      have HX := Lib.hid hxe; clear hxe
      have HY := Lib.hid hye; clear hye
      obtain ⟨r, hr⟩ : ∃ r, (x + y + cy) % 4294967296 = r := ⟨_, rfl⟩
      obtain ⟨d, hd⟩ : ∃ d, (x + y + cy) / 4294967296 = d := ⟨_, rfl⟩
      have hd1 : d ≤ 1 := by omega
      have hr1 : r < 4294967296 := by omega
      have hs := Lib.hid (add_step (s := r) (x := x) (y := y) (c := cy) (c' := d) hv.out (by omega))
      have R := Lib.hid hr; clear hr
      have D := Lib.hid hd; clear hd
      go_wp2_with fail
      go_region_with ((go_at_call 103; refine (add32_at x y cy r d _ hx hy hcy R.out D.out).mono ?_; rintro e w2 ⟨rfl, rfl⟩))
      all_goals
        go_wp2_with fail
        go_roundw
        case rel =>
          refine ⟨k + 1, d, upd F' (o + k) r, by omega, by go_num, rfl, hd1, Row.set hrw.out.drew _ _, fr_trans hfr (fr_trans (Row.set_fr hrw.out (o + k) r) (fr_ext _ (Ext.drew _))), upd_lt hFb.out hr1, ?_, ?_⟩
          · exact fun i hi => by rw [upd_ne _ (by omega)]; exact hFo.out i (by omega)
          · show _ = _
            rw [pB_succ]
            have e1 : valN (fun i => upd F' (o + k) r (o + i)) (k + 1) = valN (fun i => F' (o + i)) k + r * pB k := by
              rw [valN, upd_same]; congr 1; exact valN_congr fun i hi => upd_ne _ (by omega)
            rw [e1, valN, valN, ← hFk.out, HX.out, HY.out]
            exact hs.out
        case measure => simp [intOf]; omega
    · obtain rfl : k = n := by omega
      go_wp2
      go_ret
      exact ⟨F', cy, rfl, hrw.out, hfr, hFb.out, hFo.out, hcy, hv.out⟩

end Go.Proofs.YtgmmcfnahfcadaaDoor
