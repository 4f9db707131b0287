/- Dot: the sum of many products. -/
import Derived.Test.YtfllhbebackbdaaWordn
namespace Go.Proofs.Ytfllhbebackbdaa
open Go.RowKit

abbrev U (n : Int) : Value := .int .u64 n
def allB (b : Int) (f g : Nat → Int) : Nat → Bool
  | 0 => true
  | k + 1 => allB b f g k && (inB b (f k) && inB b (g k))
def sumS (f g : Nat → Int) : Nat → Int
  | 0 => 0
  | k + 1 => sumS f g k + f k * g k
def lstF (b s : Int) (f g : Nat → Int) (L : Nat) : Int := if chkF b s = 0 ∧ allB b f g L = true then 0 else 3
theorem allB_lt {b : Int} {f g : Nat → Int} {L k : Nat} (h : allB b f g L = true) (hk : k < L) : inB b (f k) = true ∧ inB b (g k) = true := by
  induction L with
  | zero => omega
  | succ L ih =>
    simp only [allB, Bool.and_eq_true] at h
    by_cases e : k = L
    · subst e; exact h.2
    · exact ih h.1 (by omega)
theorem allB_no {b : Int} {f g : Nat → Int} {L k : Nat} (hk : k < L) (h : ¬ (inB b (f k) = true ∧ inB b (g k) = true)) : ¬ allB b f g L = true := fun h' => h (allB_lt h' hk)

set_option maxRecDepth 100000 in
set_option maxHeartbeats 1000000 in
theorem lists_any (b s : Int) (f g : Nat → Int) (L : Nat) (hL1 : L ≤ 256) (w : World) (ba oa ca bb ob cb : Nat) (ha : ba < w.heap.size) (hb' : bb < w.heap.size)
    (fa : ∀ i, i < L → w.cell? ⟨ba, oa + i, none⟩ = some (I (f i))) (fb : ∀ i, i < L → w.cell? ⟨bb, ob + i, none⟩ = some (I (g i))) :
    Calls Try.prog 50 #[fmt b s, .slice (some ⟨ba, oa, none⟩) L ca, .slice (some ⟨bb, ob, none⟩) L cb] w fun e w' => e = .returned (errv (lstF b s f g L)) ∧ Ext w w' := by
  have FA := Lib.hid fa; clear fa
  have FB := Lib.hid fb; clear fb
  by_cases hv : chkF b s = 0
  · obtain ⟨h1, h2, _, _⟩ := chk_of hv
    have HY : Hid (allB b f g L = true → lstF b s f g L = 0) := fun h => by unfold lstF; rw [if_pos ⟨hv, h⟩]
    have HN : Hid (¬ allB b f g L = true → lstF b s f g L = 3) := fun h => by unfold lstF; rw [if_neg (fun hh => h hh.2)]
    have HV := Lib.hid hv; clear hv
    have ha2 : ba < w.heap.size + 1 := by omega
    have hb2 : bb < w.heap.size + 1 := by omega
    have ha3 : ba ≠ w.heap.size := by omega
    have hb3 : bb ≠ w.heap.size := by omega
    go_enter Try.func50, Try.ntmps50
    go_wp2_with (first | (go_at_call 19; refine (check_ok _ _ _ HV.out).mono ?_; rintro e w1 ⟨rfl, hb1⟩; (first | replace hb := Ext.trans hb hb1 | replace hb := Ext.trans (Ext.trans hb (Ext.drewN _ _)) hb1 | replace hb := Ext.trans (Ext.trans hb (Ext.alloc _ _)) hb1 | have hb := hb1); clear hb1; obtain ⟨hc1, hf1⟩ := hb.old))
    go_loopw [26] (fun c wr => Ext (w.alloc (.cells #[I b, I s] 23)) wr ∧ ∃ k : Nat, k ≤ L ∧ c = I k ∧ Hid (allB b f g k = true)) (fun c _ => L - (intOf c).toNat)
    case atStart => exact ⟨(by repeat (first | exact Ext.refl _ | assumption | exact Ext.alloc _ _ | refine Ext.trans ?_ (by assumption) | refine Ext.trans ?_ (Ext.alloc _ _) | refine Ext.trans ?_ (Ext.drewN _ _) | refine Ext.trans ?_ (Ext.drew _))), 0, Nat.zero_le _, rfl, rfl⟩
    case round =>
      clear hb hc1 hf1
      obtain ⟨hb, k, hk, rfl, hall⟩ := hrel
      obtain ⟨hc, hf⟩ := hb.old
      by_cases hlt : k < L
      · have ca1 := FA.out k hlt
        have cb1 := FB.out k hlt
        by_cases ix : inB b (f k) = true
        · by_cases iy : inB b (g k) = true
          · have hn : Hid (allB b f g (k + 1) = true) := by show (allB b f g k && (inB b (f k) && inB b (g k))) = true; rw [hall.out, ix, iy]; rfl
            go_wp2_with fail
            have hL := fun (x : Later _) => (Ext.trans hb x.ext).old.1
            refine wp_region_later (by kernel_rfl) (by kernel_rfl) ?_
            repeat (go_big_quiet_step (((go_at_call 48; exact Calls.later (isWord_any _ _ _ _ h1 h2)))))
            refine wpQuiet_nil ?_
            intro w2 hw2
            replace hb := Ext.trans hb (Later.of hw2)
            clear hw2 hL
            obtain ⟨hc, hf⟩ := hb.old
            go_wp2_with fail
            go_roundw
            case rel => exact ⟨(by repeat (first | exact Ext.refl _ | assumption | exact Ext.alloc _ _ | refine Ext.trans ?_ (by assumption) | refine Ext.trans ?_ (Ext.alloc _ _) | refine Ext.trans ?_ (Ext.drewN _ _) | refine Ext.trans ?_ (Ext.drew _))), k + 1, by omega, by go_num, hn⟩
            case measure => simp [intOf]; omega
          · have hE := Lib.hid (HN.out (allB_no hlt (fun hh => iy hh.2)))
            replace iy : inB b (g k) = false := by simpa using iy
            go_wp2_with fail
            have hL := fun (x : Later _) => (Ext.trans hb x.ext).old.1
            refine wp_region_later (by kernel_rfl) (by kernel_rfl) ?_
            repeat (go_big_quiet_step (((go_at_call 48; exact Calls.later (isWord_any _ _ _ _ h1 h2)))))
            refine wpQuiet_nil ?_
            intro w2 hw2
            replace hb := Ext.trans hb (Later.of hw2)
            clear hw2 hL
            obtain ⟨hc, hf⟩ := hb.old
            go_wp2_with fail
            go_ret
            exact ⟨by rw [hE.out]; rfl, (by repeat (first | exact Ext.refl _ | assumption | exact Ext.alloc _ _ | refine Ext.trans ?_ (by assumption) | refine Ext.trans ?_ (Ext.alloc _ _) | refine Ext.trans ?_ (Ext.drewN _ _) | refine Ext.trans ?_ (Ext.drew _)))⟩
        · have hE := Lib.hid (HN.out (allB_no hlt (fun hh => ix hh.1)))
          replace ix : inB b (f k) = false := by simpa using ix
          go_wp2_with fail
          have hL := fun (x : Later _) => (Ext.trans hb x.ext).old.1
          refine wp_region_later (by kernel_rfl) (by kernel_rfl) ?_
          repeat (go_big_quiet_step (((go_at_call 48; exact Calls.later (isWord_any _ _ _ _ h1 h2)))))
          refine wpQuiet_nil ?_
          intro w2 hw2
          replace hb := Ext.trans hb (Later.of hw2)
          clear hw2 hL
          obtain ⟨hc, hf⟩ := hb.old
          go_wp2_with fail
          go_ret
          exact ⟨by rw [hE.out]; rfl, (by repeat (first | exact Ext.refl _ | assumption | exact Ext.alloc _ _ | refine Ext.trans ?_ (by assumption) | refine Ext.trans ?_ (Ext.alloc _ _) | refine Ext.trans ?_ (Ext.drewN _ _) | refine Ext.trans ?_ (Ext.drew _)))⟩
      · obtain rfl : k = L := by omega
        go_wp2_with fail
        go_ret
        exact ⟨by rw [HY.out hall.out]; rfl, (by repeat (first | exact Ext.refl _ | assumption | exact Ext.alloc _ _ | refine Ext.trans ?_ (by assumption) | refine Ext.trans ?_ (Ext.alloc _ _) | refine Ext.trans ?_ (Ext.drewN _ _) | refine Ext.trans ?_ (Ext.drew _)))⟩
  · have HE : Hid (lstF b s f g L = 3) := by show lstF b s f g L = 3; unfold lstF; rw [if_neg (fun hh => hv hh.1)]
    have HV := Lib.hid hv; clear hv
    go_enter Try.func50, Try.ntmps50
    go_wp2_with (first | (go_at_call 19; refine (check_bad _ _ _ HV.out).mono ?_; rintro e w1 ⟨rfl, hb1⟩; (first | replace hb := Ext.trans hb hb1 | replace hb := Ext.trans (Ext.trans hb (Ext.drewN _ _)) hb1 | replace hb := Ext.trans (Ext.trans hb (Ext.alloc _ _)) hb1 | have hb := hb1); clear hb1; obtain ⟨hc1, hf1⟩ := hb.old))
    go_ret
    exact ⟨by rw [HE.out]; rfl, (by repeat (first | exact Ext.refl _ | assumption | exact Ext.alloc _ _ | refine Ext.trans ?_ (by assumption) | refine Ext.trans ?_ (Ext.alloc _ _) | refine Ext.trans ?_ (Ext.drewN _ _) | refine Ext.trans ?_ (Ext.drew _)))⟩

end Go.Proofs.Ytfllhbebackbdaa
