/- The fixed-point machine: Start by the code; what is asked of the sizes; errors of all. -/
import Derived.Test.YtommlhdiefoocaaKdh
namespace Go.Proofs.Ytommlhdiefoocaa
open Go Go.RowKit

def StP (G : Pgm) (w : World) (e : Ending) (w' : World) : Prop := ∃ B k, e = .returned (.tuple #[.slice B G.nc k, .nilIface]) ∧ Ri w' B G.nc G.C ∧ (B = none → k = 0) ∧ (∀ b o, B = some ⟨b, o, none⟩ → w.heap.size ≤ b) ∧ Ext w w'
set_option maxRecDepth 100000 in
set_option maxHeartbeats 1000000 in
theorem Start_err {w : World} {G : Pgm} {p : Pp} (d : Pm w G p) (h : chP G ≠ 0) :
    Calls Try.prog 13 #[pgv G p] w fun e w' => e = .returned (.tuple #[.slice none 0 0, .iface 72 (I (chP G))]) ∧ Ext w w' := by
  have HC : Hid (∀ w', Ext w w' → Calls Try.prog 17 #[pgv G p] w' fun e w'' => e = .returned (errv (chP G)) ∧ Ext w' w'') := fun w' e => Check_any (d.ext e)
  rw [errv_n h] at HC
  generalize chP G = ec at *
  clear d h
  go_enter Try.func13, Try.ntmps13
  go_wp2_with (go_at_call 17; (with_reducible refine (HC.out _ (Ext.alloc _ _)).mono ?_); rintro e w1 ⟨rfl, hb1⟩)
  go_ret2
  exact ⟨rfl, (Ext.alloc _ _).trans hb1⟩
set_option maxRecDepth 100000 in
set_option maxHeartbeats 1000000 in
theorem Start_ok {w : World} {G : Pgm} {p : Pp} (d : Pm w G p) (h : chP G = 0) : Calls Try.prog 13 #[pgv G p] w (StP G w) := by
  have HC : Hid (∀ w', Ext w w' → Calls Try.prog 17 #[pgv G p] w' fun e w'' => e = .returned (errv (chP G)) ∧ Ext w' w'') := fun w' e => Check_any (d.ext e)
  have ok := chP_ok h
  have HCL : Hid (∀ w', Ext w w' → Calls Try.prog 28 #[.slice p.AC G.nc p.cC] w' (ClR G.C G.nc w')) := fun w' e => cloneZ_any (d.init.ext e) d.nC (by have := ok.nc; omega)
  rw [h, errv_z] at HC
  have HBD := Lib.hid (Px.new w G p 26)
  have HE : Hid (Ext w (w.alloc (.cells #[.slice p.AP G.np p.cP, .slice p.AC G.nc p.cC, .slice p.AX G.ni p.cX, .slice p.AO G.no p.cO] 26))) := Ext.alloc _ _
  obtain ⟨W1, hW1⟩ : ∃ W1, W1 = w.alloc (.cells #[.slice p.AP G.np p.cP, .slice p.AC G.nc p.cC, .slice p.AX G.ni p.cX, .slice p.AO G.no p.cO] 26) := ⟨_, rfl⟩
  rw [← hW1] at HBD HE
  obtain ⟨c0, c1, c2, c3⟩ := HBD.out
  clear d h ok
  go_enter Try.func13, Try.ntmps13
  go_upto_region 1 with fail
  rw [← hW1]; clear hW1
  go_upto_region 4 with (go_at_call 17; (with_reducible refine (HC.out _ HE.out).mono ?_); rintro e w1 ⟨rfl, hb1⟩)
  clear c0 c1 c2 c3
  obtain ⟨c0, c1, c2, c3⟩ := HBD.out.ext hb1
  have HX := Lib.hid (HE.out.trans hb1)
  go_wp2_with (go_at_call 28; (with_reducible refine (HCL.out _ HX.out).mono ?_); rintro e w2 ⟨D, kD, rfl, hO, hx2⟩)
  go_ret2
  exact ⟨D, kD, rfl, hO.ri, hO.nz, fun b o hD => Nat.le_trans HX.out.size (hO.blk b o hD).1, HX.out.trans hx2⟩
/-- Are a program's lists short enough to be looked at? -/
def litP (G : Pgm) : Bool := decide (G.np ≤ 40) && (decide (G.nc ≤ 200) && (decide (G.ni ≤ 300) && decide (G.no ≤ 40)))
set_option maxRecDepth 100000 in
set_option maxHeartbeats 1000000 in
theorem lightP_any {w : World} {G : Pgm} {p : Pp} (d : Pm w G p) : Calls Try.prog 11 #[pgv G p] w fun e w' => e = .returned (.bool (litP G)) ∧ Ext w w' := by
  have l1 : G.np ≤ 2 ^ 63 - 1 := d.lp
  have l2 : G.nc ≤ 2 ^ 63 - 1 := d.lc
  have l3 : G.ni ≤ 2 ^ 63 - 1 := d.lx
  have l4 : G.no ≤ 2 ^ 63 - 1 := d.lo
  clear d
  by_cases h1 : G.np ≤ 40
  · have h1' : (G.np : Int) ≤ 40 := by omega
    by_cases h2 : G.nc ≤ 200
    · have h2' : (G.nc : Int) ≤ 200 := by omega
      by_cases h3 : G.ni ≤ 300
      · have h3' : (G.ni : Int) ≤ 300 := by omega
        by_cases h4 : G.no ≤ 40
        · have h4' : (G.no : Int) ≤ 40 := by omega
          have HV := Lib.hid (show litP G = true by simp [litP, h1, h2, h3, h4])
          go_enter Try.func11, Try.ntmps11
          go_wp2_with fail
          go_ret
          exact ⟨by rw [HV.out]; rfl, Ext.alloc _ _⟩
        · have h4' : ¬ (G.no : Int) ≤ 40 := by omega
          have HV := Lib.hid (show litP G = false by simp [litP, h4])
          go_enter Try.func11, Try.ntmps11
          go_wp2_with fail
          go_ret
          exact ⟨by rw [HV.out]; rfl, Ext.alloc _ _⟩
      · have h3' : ¬ (G.ni : Int) ≤ 300 := by omega
        have HV := Lib.hid (show litP G = false by simp [litP, h3])
        go_enter Try.func11, Try.ntmps11
        go_wp2_with fail
        go_ret
        exact ⟨by rw [HV.out]; rfl, Ext.alloc _ _⟩
    · have h2' : ¬ (G.nc : Int) ≤ 200 := by omega
      have HV := Lib.hid (show litP G = false by simp [litP, h2])
      go_enter Try.func11, Try.ntmps11
      go_wp2_with fail
      go_ret
      exact ⟨by rw [HV.out]; rfl, Ext.alloc _ _⟩
  · have h1' : ¬ (G.np : Int) ≤ 40 := by omega
    have HV := Lib.hid (show litP G = false by simp [litP, h1])
    go_enter Try.func11, Try.ntmps11
    go_wp2_with fail
    go_ret
    exact ⟨by rw [HV.out]; rfl, Ext.alloc _ _⟩
end Go.Proofs.Ytommlhdiefoocaa
