/- Contracts of the functions of package word and of its reference, second part. -/
import Derived.Test.YtfllhbebackbdaaWord
namespace Go.Proofs.Ytfllhbebackbdaa
open Go.RowKit

def pairF (b s x y : Int) : Int := if chkF b s = 0 ∧ inB b x = true ∧ inB b y = true then 0 else 3
def isF (b s x : Int) : Bool := (chkF b s == 0) && inB b x
def addF (b s x y z : Int) : Int × Bool × Int := if pairF b s x y = 0 then (clipF b z, cutF b z, 0) else (0, false, 3)
abbrev res3 (r : Int × Bool × Int) : Value := .tuple #[I r.1, .bool r.2.1, errv r.2.2]
abbrev ref3 (r : Int × Bool × Int) : Value := .tuple #[I r.1, .bool r.2.1, I r.2.2]
abbrev res2 (r : Int × Int) : Value := .tuple #[I r.1, errv r.2]
abbrev ref2 (r : Int × Int) : Value := .tuple #[I r.1, I r.2]

theorem chk_ok {b s : Int} (h1 : 2 ≤ b) (h2 : b ≤ 32) (h3 : -64 ≤ s) (h4 : s ≤ 64) : chkF b s = 0 := by unfold chkF; rw [if_neg (by omega)]
theorem chk_of {b s : Int} (h : chkF b s = 0) : 2 ≤ b ∧ b ≤ 32 ∧ -64 ≤ s ∧ s ≤ 64 := by
  unfold chkF at h; split at h
  · cases h
  · omega
theorem chk_bad {b s : Int} (h : ¬ chkF b s = 0) : chkF b s = 3 := by
  unfold chkF at *; split
  · rfl
  · rename_i h'; rw [if_neg h'] at h; exact absurd rfl h
theorem inB_bd {b x : Int} (h2 : b ≤ 32) (h : inB b x = true) : -2147483648 ≤ x ∧ x ≤ 2147483647 := by
  have := powW b h2
  rw [inB, Bool.and_eq_true] at h
  have ha := of_decide_eq_true h.1
  have hb := of_decide_eq_true h.2
  unfold loW at ha
  unfold hiW at hb
  omega
theorem clip_bd {b x : Int} (h2 : b ≤ 32) : -2147483648 ≤ clipF b x ∧ clipF b x ≤ 2147483647 := by
  have := powW b h2
  unfold clipF loW hiW
  split <;> (try split) <;> omega
theorem lohi (b : Int) : loW b ≤ hiW b := by
  have := pow_pos (b.toNat - 1); unfold loW hiW; omega

theorem check_ok (b s : Int) (w : World) (h : chkF b s = 0) : Calls Try.prog 19 #[fmt b s] w fun e w' => e = .returned .nilIface ∧ Ext w w' :=
  (check_any b s w).mono fun _ _ ⟨he, hw⟩ => ⟨by rw [he, h]; rfl, hw⟩
theorem check_bad (b s : Int) (w : World) (h : ¬ chkF b s = 0) : Calls Try.prog 19 #[fmt b s] w fun e w' => e = .returned (.iface 68 (I 3)) ∧ Ext w w' :=
  (check_any b s w).mono fun _ _ ⟨he, hw⟩ => ⟨by rw [he, chk_bad h]; rfl, hw⟩

set_option maxHeartbeats 400000 in
theorem saturate_any (b s x : Int) (w : World) (h1 : 2 ≤ b) (h2 : b ≤ 32) :
    Calls Try.prog 38 #[fmt b s, I x] w fun e w' => e = .returned (.tuple #[I (clipF b x), .bool (cutF b x)]) ∧ Ext w w' := by
  have hl := lohi b
  obtain h | h | h : x < loW b ∨ hiW b < x ∨ (loW b ≤ x ∧ x ≤ hiW b) := by omega
  · go_enter Try.func38, Try.ntmps38
    go_wp2_with (go_at_call 37; refine (limits_any _ _ _ h1 h2).mono ?_; rintro e w1 ⟨rfl, hb1⟩; (first | replace hb := Ext.trans hb hb1 | have hb := hb1); clear hb1; obtain ⟨hc1, hf1⟩ := hb.old)
    go_ret2
    exact ⟨by simp [clipF, cutF, h, bne], by (repeat (first | exact Ext.refl _ | assumption | exact Ext.alloc _ _ | refine Ext.trans ?_ (by assumption) | refine Ext.trans ?_ (Ext.alloc _ _) | refine Ext.trans ?_ (Ext.drewN _ _)))⟩
  · have h' : ¬ x < loW b := by omega
    go_enter Try.func38, Try.ntmps38
    go_wp2_with (go_at_call 37; refine (limits_any _ _ _ h1 h2).mono ?_; rintro e w1 ⟨rfl, hb1⟩; (first | replace hb := Ext.trans hb hb1 | have hb := hb1); clear hb1; obtain ⟨hc1, hf1⟩ := hb.old)
    go_ret2
    exact ⟨by rw [show clipF b x = hiW b by unfold clipF; rw [if_neg (by omega), if_pos h]]; simp only [cutF, show clipF b x = hiW b by unfold clipF; rw [if_neg (by omega), if_pos h]]; rfl, by (repeat (first | exact Ext.refl _ | assumption | exact Ext.alloc _ _ | refine Ext.trans ?_ (by assumption) | refine Ext.trans ?_ (Ext.alloc _ _) | refine Ext.trans ?_ (Ext.drewN _ _)))⟩
  · obtain ⟨ha, ha'⟩ := h
    go_enter Try.func38, Try.ntmps38
    go_wp2_with (go_at_call 37; refine (limits_any _ _ _ h1 h2).mono ?_; rintro e w1 ⟨rfl, hb1⟩; (first | replace hb := Ext.trans hb hb1 | have hb := hb1); clear hb1; obtain ⟨hc1, hf1⟩ := hb.old)
    go_ret2
    exact ⟨by simp only [cutF, show clipF b x = x by unfold clipF; rw [if_neg (by omega), if_neg (by omega)]]; simp, by (repeat (first | exact Ext.refl _ | assumption | exact Ext.alloc _ _ | refine Ext.trans ?_ (by assumption) | refine Ext.trans ?_ (Ext.alloc _ _) | refine Ext.trans ?_ (Ext.drewN _ _)))⟩

set_option maxHeartbeats 400000 in
theorem isWord_any (b s x : Int) (w : World) (h1 : 2 ≤ b) (h2 : b ≤ 32) :
    Calls Try.prog 48 #[fmt b s, I x] w fun e w' => e = .returned (.bool (inB b x)) ∧ Ext w w' := by
  go_enter Try.func48, Try.ntmps48
  go_wp2_with (go_at_call 37; refine (limits_any _ _ _ h1 h2).mono ?_; rintro e w1 ⟨rfl, hb1⟩; (first | replace hb := Ext.trans hb hb1 | have hb := hb1); clear hb1; obtain ⟨hc1, hf1⟩ := hb.old)
  all_goals (go_ret; exact ⟨by simp [inB] <;> omega, by (repeat (first | exact Ext.refl _ | assumption | exact Ext.alloc _ _ | refine Ext.trans ?_ (by assumption) | refine Ext.trans ?_ (Ext.alloc _ _) | refine Ext.trans ?_ (Ext.drewN _ _)))⟩)

set_option maxHeartbeats 400000 in
theorem rclip_any (b s x : Int) (w : World) (h1 : 2 ≤ b) (h2 : b ≤ 32) :
    Calls Try.prog 20 #[fmt b s, I x] w fun e w' => e = .returned (.tuple #[I (clipF b x), .bool (cutF b x)]) ∧ Ext w w' := by
  have hl := lohi b
  have e1 : x < loW b → clipF b x = loW b := fun h => by unfold clipF; rw [if_pos h]
  have e2 : ¬ x < loW b → hiW b < x → clipF b x = hiW b := fun h h' => by unfold clipF; rw [if_neg h, if_pos h']
  have e3 : ¬ x < loW b → ¬ hiW b < x → clipF b x = x := fun h h' => by unfold clipF; rw [if_neg h, if_neg h']
  have E1 := Lib.hid e1; clear e1
  have E2 := Lib.hid e2; clear e2
  have E3 := Lib.hid e3; clear e3
  go_enter Try.func20, Try.ntmps20
  go_wp2_with (first
    | (go_at_call 21; refine (least_any _ _ _ h1 h2).mono ?_; rintro e w1 ⟨rfl, hb1⟩; (first | replace hb := Ext.trans hb hb1 | have hb := hb1); clear hb1; obtain ⟨hc1, hf1⟩ := hb.old)
    | (go_at_call 22; refine (greatest_any _ _ _ h1 h2).mono ?_; rintro e w1 ⟨rfl, hb1⟩; (first | replace hb := Ext.trans hb hb1 | have hb := hb1); clear hb1; obtain ⟨hc1, hf1⟩ := hb.old))
  all_goals (go_ret2; refine ⟨?_, by (repeat (first | exact Ext.refl _ | assumption | exact Ext.alloc _ _ | refine Ext.trans ?_ (by assumption) | refine Ext.trans ?_ (Ext.alloc _ _) | refine Ext.trans ?_ (Ext.drewN _ _)))⟩; unfold cutF; first | (rw [E1.out (by omega)]; simp; omega) | (rw [E2.out (by omega) (by omega)]; simp; omega) | (rw [E3.out (by omega) (by omega)]; simp))

end Go.Proofs.Ytfllhbebackbdaa
