/- The laws over numbers that are not few: the law then says awake. -/
import Derived.Test.YtbghikgagejbiaaDoorLawm
namespace Go.Proofs.YtbghikgagejbiaaDoor
open Go.RowKit

/-- Small numbers. -/
def Sm (d : DV) : Prop := d.ok ∧ len d.m ≤ 16 ∧ d.den ≤ 300
theorem sm_of {neg : Bool} {n : Nat} {den : Int} {f : Nat → Nat} (hd : (nrA neg n f den).ok) (hb : ∀ i, i < n → f i < 4294967296) (h : fewOk n den) : Sm (nrA neg n f den) := by
  obtain ⟨h1, h2⟩ := h
  refine ⟨hd, ?_⟩
  unfold nrA
  by_cases hv : vld neg n f den = true
  · rw [if_pos hv]
    refine ⟨Nat.le_trans (len_le (valN_lt hb)) (by omega), ?_⟩
    show den.toNat ≤ 300
    cases n with
    | zero => rw [vld_zero] at hv; simp at hv; omega
    | succ k => rw [vld_succ] at hv; simp at hv; omega
  · rw [if_neg hv]
    exact ⟨by rw [zero_len]; omega, by decide⟩

theorem nums3 (w : World) (g : Nat) (hg : w.heap.size = g) (n0 n1 n2 : Bool) (A0 A1 A2 : Option Addr) (k0 k1 k2 c0 c1 c2 : Nat) (d0 d1 d2 : Int) (t : TypeId) :
    Nums (w.alloc (.cells #[.bool n0, .slice A0 k0 c0, I d0, .bool n1, .slice A1 k1 c1, I d1, .bool n2, .slice A2 k2 c2, I d2] t)) g 3 (fun i => if i = 0 then n0 else if i = 1 then n1 else n2) (fun i => if i = 0 then A0 else if i = 1 then A1 else A2)
      (fun i => if i = 0 then k0 else if i = 1 then k1 else k2) (fun i => if i = 0 then c0 else if i = 1 then c1 else c2) (fun i => if i = 0 then d0 else if i = 1 then d1 else d2) := by
  subst hg
  intro i hi
  have : i = 0 ∨ i = 1 ∨ i = 2 := by omega
  rcases this with rfl | rfl | rfl
  · exact ⟨by go_simp, by go_simp, by go_simp⟩
  · exact ⟨by go_simp, by go_simp, by go_simp⟩
  · exact ⟨by go_simp, by go_simp, by go_simp⟩
theorem few3 {k0 k1 k2 : Nat} {d0 d1 d2 : Int} (h0 : fewOk k0 d0) (h1 : fewOk k1 d1) (h2 : fewOk k2 d2) : ∀ i, i < 3 → fewOk (if i = 0 then k0 else if i = 1 then k1 else k2) (if i = 0 then d0 else if i = 1 then d1 else d2) := by
  intro i hi
  have : i = 0 ∨ i = 1 ∨ i = 2 := by omega
  rcases this with rfl | rfl | rfl
  · exact h0
  · exact h1
  · exact h2
theorem few3_not {k0 k1 k2 : Nat} {d0 d1 d2 : Int} (h : ¬ (fewOk k0 d0 ∧ fewOk k1 d1 ∧ fewOk k2 d2)) : ¬ ∀ i, i < 3 → fewOk (if i = 0 then k0 else if i = 1 then k1 else k2) (if i = 0 then d0 else if i = 1 then d1 else d2) := fun hh =>
  h ⟨hh 0 (by omega), hh 1 (by omega), hh 2 (by omega)⟩

set_option maxRecDepth 100000 in
set_option maxHeartbeats 1000000 in
theorem rings_off {w : World} {na nb nc : Bool} {A B C : Option Addr} {n ca m cb l cc : Nat} {da db dc : Int} (hT : Tabs w) (h : ¬ (fewOk n da ∧ fewOk m db ∧ fewOk l dc)) :
    Calls Tryd.prog 6 #[dv na A n ca da, dv nb B m cb db, dv nc C l cc dc] w fun e w' => e = .returned (.bool true) ∧ Ext w w' := by
  have HT := Lib.hid hT; clear hT
  have HFW := Lib.hid (few3_not h)
  clear h
  go_enter Tryd.func6, Tryd.ntmps6
  go_wp2_with fail
  have HN := Lib.hid (nums3 (((w.alloc (.cells #[.bool na, .slice A n ca, I da] 24)).alloc (.cells #[.bool nb, .slice B m cb, I db] 24)).alloc (.cells #[.bool nc, .slice C l cc, I dc] 24)) (w.heap.size + 1 + 1 + 1) (by simp) na nb nc A B C n m l ca cb cc da db dc 24)
  with_reducible refine (few_false HN.out (by simp) (by omega) HFW.out).mono ?_
  rintro e wf ⟨rfl, hx⟩
  have HEF : Hid (Ext w wf) := ((((Ext.alloc _ _).trans (Ext.alloc _ _)).trans (Ext.alloc _ _)).trans (Ext.alloc _ _)).trans hx
  clear hx
  go_wp2_with fail
  refine (awake_any _ (HT.out.ext HEF.out)).mono ?_
  rintro e w0 ⟨rfl, hx⟩
  have HEW := Lib.hid (HEF.out.trans hx)
  clear hx
  go_wp2_with fail
  go_ret
  exact ⟨rfl, HEW.out⟩

end Go.Proofs.YtbghikgagejbiaaDoor
