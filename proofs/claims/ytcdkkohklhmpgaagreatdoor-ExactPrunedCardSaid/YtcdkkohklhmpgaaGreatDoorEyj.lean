/- Package exact: a tick: the deferred function; step. -/
import Derived.Test.YtcdkkohklhmpgaaGreatDoorEyi
import Derived.Defers
import Derived.Recover
namespace Go.Proofs.YtcdkkohklhmpgaaGreatDoor
open Go Go.RowKit

theorem run_long (w : World) : (Instr.typeAssert (.iface 184 (.agg #[])) 20 184 true).run Tryz.prog w = .ok (.tuple #[.agg #[], .bool true]) w := by kernel_rfl
theorem run_long_nil (w : World) : (Instr.typeAssert .nilIface 20 184 true).run Tryz.prog w = .ok (.tuple #[.agg #[], .bool false]) w := by kernel_rfl
set_option maxRecDepth 100000 in
set_option maxHeartbeats 2000000 in
theorem catch_long (g : Nat) (w : World) (hc : w.cell? ⟨g, 0, none⟩ = some .nilIface) (hz : w.frozen? ⟨g, 0, none⟩ = false) (hne : ¬ g = w.heap.size) :
    CallsD Tryz.prog 174 #[.pointer (some ⟨g, 0, none⟩)] (.panicking tlC) w fun e u' w' =>
      e = .returned (.tuple #[]) ∧ u' = .panicking [{ v := .iface 184 (.agg #[]), recovered := true }] ∧ w' = (w.alloc (.cells #[] 184)).setCell ⟨g, 0, none⟩ (.iface 61 (I 4)) := by
  have hta := run_long
  have hne2 : ¬ w.heap.size = g := fun q => hne q.symm
  have hc' : (w.alloc (.cells #[] 184)).cell? ⟨g, 0, none⟩ = some .nilIface := by rw [World.cell?_alloc_old _ _ _ hne]; exact hc
  have hz' : (w.alloc (.cells #[] 184)).frozen? ⟨g, 0, none⟩ = false := by rw [World.frozen?_alloc_old _ _ _ hne]; exact hz
  refine callsD_of_wpS Tryz.func174 rfl fun c₀ cs hu => ?_
  apply wpS_seq
  apply wpS_region
  simp [wpOpsS, go_sem, recoverD, hu, tlC, Tryz.ntmps174, Exit.thenS]
  refine wpS_of_wp ?_
  go_wp2_with fail
  simp [bodyPostS, results, Tryz.results174]
set_option maxRecDepth 100000 in
set_option maxHeartbeats 2000000 in
theorem catch_idle (a : Value) (w : World) :
    CallsD Tryz.prog 174 #[a] .returning w fun e u' w' => e = .returned (.tuple #[]) ∧ u' = .returning ∧ w' = w.alloc (.cells #[] 184) := by
  have hta := run_long_nil
  refine callsD_of_wpS Tryz.func174 rfl fun c₀ cs hu => ?_
  apply wpS_seq
  apply wpS_region
  simp [wpOpsS, go_sem, recoverD, hu, Tryz.ntmps174, Exit.thenS]
  refine wpS_of_wp ?_
  go_wp2_with fail
  cases c₀
  simp_all [bodyPostS, results, Tryz.results174]

theorem LvM.off {w w' : World} {g n h : Nat} {R : Nat → RN} {V : Nat → DV} (l : LvM w g n R V) (e : w.grownBy w' (some h)) (hg : g ≠ h) (hw : ∀ i, i < n → ∀ a, (R i).A = some a → a.block ≠ h) : LvM w' g n R V :=
  ⟨l.row.of_block (e.block g l.row.lt (fun q => hg (Option.some.inj q))), fun i hi => (l.el i hi).fr e (fun _ => hw i hi), l.ne⟩
/-- What a tick returns. -/
def StP (D : Dia) (n : Nat) (b : Nat → Bool) (S : Nat → DV) (m : Nat) (IN : Nat → Int) (w : World) (e : Ending) (w' : World) : Prop :=
  (stE D n b S m IN ≠ 0 ∧ e = .returned (.tuple #[.slice none 0 0, .slice none 0 0, errv (stE D n b S m IN)]) ∧ Ext w w') ∨
  (stE D n b S m IN = 0 ∧ ∃ g R g' R', e = .returned (.tuple #[.slice (some ⟨g, 0, none⟩) n n, .slice (some ⟨g', 0, none⟩) D.nb D.nb, .nilIface]) ∧ LvM w' g n R (nxS D (tkV D S IN)) ∧ LvM w' g' D.nb R' (tkV D S IN) ∧ (w.heap.size ≤ g ∧ ∀ i, i < n → ∀ a, (R i).A = some a → w.heap.size ≤ a.block) ∧ (w.heap.size ≤ g' ∧ ∀ i, i < D.nb → ∀ a, (R' i).A = some a → w.heap.size ≤ a.block) ∧ Ext w w')
set_option maxRecDepth 100000 in
set_option maxHeartbeats 4000000 in
theorem estep_any {w : World} {D : Dia} {p : Pl} {Ao Ad As Ai : Option Addr} {lo ld co cd n cs m ci : Nat} {R : Nat → RN} {S : Nat → DV} {b : Nat → Bool} {IN : Nat → Int} (d : Dm w D p) (ok : OkD D) (hT : Tabs w) (hld : (delL D).length = ld) (hlo : (ordL D).length = lo)
    (rd : Rl w Ad cd (delL D)) (ro : Rl w Ao co (ordL D)) (rs : Rn w As n R) (el : ∀ k, k < n → El w (R k) (S k) (b k)) (r : Ri w Ai m IN) (hm : m ≤ maxLen) :
    Calls Tryz.prog 104 #[evv D p Ao lo co Ad ld cd, .slice As n cs, .slice Ai m ci] w (StP D n b S m IN w) := by
  have hmf : ∀ (fn : Fn) (first cap : Array Value) (w : World), (Instr.makeFunc fn first cap).run Tryz.prog w = .ok (.func fn first cap) w := fun _ _ _ _ => rfl
  have hdl := del_le D
  have hnb := ok.nb
  obtain ⟨W1, hW1⟩ : ∃ W1, W1 = (evW w D p Ao lo co Ad ld cd 132).alloc (.cells #[.nilIface] 30) := ⟨_, rfl⟩
  unfold evW at hW1
  have hE : Ext w W1 := by rw [hW1]; exact (Ext.alloc _ _).trans (Ext.alloc _ _)
  have hB : B5 W1 w.heap.size D p Ao lo co Ad ld cd := by rw [hW1]; exact (B5.new _ _ _ _ _ _ _ _ _ _).ext (Ext.alloc _ _)
  have hz1 : W1.heap.size = w.heap.size + 1 + 1 := by rw [hW1]; simp
  have hce : W1.cell? ⟨w.heap.size + 1, 0, none⟩ = some .nilIface := by rw [hW1]; go_simp
  have hfe : W1.frozen? ⟨w.heap.size + 1, 0, none⟩ = false := by rw [hW1]; go_simp
  have HCK : Hid (∀ w', Ext W1 w' → Calls Tryz.prog 173 #[evv D p Ao lo co Ad ld cd, .slice As n cs, .slice Ai m ci] w' fun e w'' => e = .returned (errv (chE D n b m IN)) ∧ Ext w' w'') := fun w' e =>
    echeck_any (d.ext (hE.trans e)) hld (by omega) (rs.ext (hE.trans e)) (fun k hk => (el k hk).ext (hE.trans e)) (r.ext (hE.trans e)) hm
  obtain ⟨c0, c1, c2, c3, c4⟩ := hB
  have hlt0 : w.heap.size < W1.heap.size := by omega
  have hlt1 : w.heap.size + 1 < W1.heap.size := by omega
  have HE := Lib.hid hE
  have HZ := Lib.hid hz1
  by_cases hch : chE D n b m IN ≠ 0
  · have HST : Hid (stE D n b S m IN = chE D n b m IN) := by show _ = _; rw [stE_ch, if_pos hch]
    rw [errv_n hch] at HCK
    have HN := Lib.hid hch
    clear d ok hT hld hlo rd ro rs el r hm hE hz1 hch hnb hdl
    generalize chE D n b m IN = code at *
    go_enter_defers Tryz.func104, Tryz.ntmps104
    go_upto_region 1 with fail
    rw [← hW1]; clear hW1
    go_wp2_with (go_at_call 173; (with_reducible refine (HCK.out _ (Ext.refl _)).mono ?_); rintro e1 w1 ⟨rfl, h1⟩; have e0 := (h1.old.1 _ _ hlt1).trans hce; have z0 := (h1.old.2 _ _ hlt1).trans hfe; have HX := Lib.hid h1; clear h1)
    refine ⟨.tuple #[.slice none 0 0, .slice none 0 0, .iface 61 (I code)], by simp [results, Tryz.results104, go_sem, e0], .inl ⟨by rw [HST.out]; exact HN.out, by rw [HST.out, errv_n HN.out], (HE.out.trans HX.out).set (show w.heap.size ≤ w.heap.size + 1 by omega) _⟩⟩
  · have hc0 : chE D n b m IN = 0 := by omega
    rw [hc0, errv_z] at HCK
    have hchk : n = (delL D).length ∧ (∀ k, k < n → b k = true) ∧ m = D.ni ∧ ∀ j, j < D.ni → (D.P j).lo ≤ IN j ∧ IN j ≤ (D.P j).hi := by
      unfold chE at hc0
      by_cases h1 : n ≠ (delL D).length
      · rw [if_pos h1] at hc0; omega
      rw [if_neg h1] at hc0
      by_cases h2 : allN n b = false
      · rw [if_pos h2] at hc0; omega
      rw [if_neg h2] at hc0
      by_cases h3 : m ≠ D.ni
      · rw [if_pos h3] at hc0; omega
      rw [if_neg h3] at hc0
      by_cases h4 : inR D IN = false
      · rw [if_pos h4] at hc0; omega
      refine ⟨by omega, allN_iff.1 (by simpa using h2), by omega, fun j hj => ?_⟩
      have := allN_iff.1 (show inR D IN = true by simpa using h4) j hj
      simpa using this
    obtain ⟨hn, hbt, rfl, hr⟩ := hchk
    obtain rfl : n = ld := by omega
    have hl : Ln w As n R S := ⟨rs, fun k hk => (el k hk).cn (hbt k hk)⟩
    have HVL : Hid (∀ w', Ext W1 w' → Calls Tryz.prog 175 #[evv D p Ao lo co Ad n cd, .slice As n cs, .slice Ai D.ni ci] w' (VlP D S IN w')) := fun w' e =>
      evalues_any (d.ext (hE.trans e)) ok (hT.ext (hE.trans e)) hld hlo (rd.ext (hE.trans e)) (ro.ext (hE.trans e)) (hl.ext (hE.trans e)) (r.ext (hE.trans e)) hr
    have HST : Hid (stE D n b S D.ni IN = if tkG D S IN = false then 4 else 0) := by show _ = _; rw [stE_ch, if_neg (by omega)]
    cases hg : tkG D S IN with
    | false =>
      have HV2 : Hid (∀ w', Ext W1 w' → Calls Tryz.prog 175 #[evv D p Ao lo co Ad n cd, .slice As n cs, .slice Ai D.ni ci] w' fun e w'' => e = .panicked tlC ∧ Ext w' w'') := fun w' e => (HVL.out w' e).mono fun e w'' h => by
        rcases h with ⟨h1, _⟩ | ⟨_, h2, h3⟩
        · rw [hg] at h1; cases h1
        · exact ⟨h2, h3⟩
      have HS4 : Hid (stE D n b S D.ni IN = 4) := by show _ = _; rw [HST.out, if_pos hg]
      have HQ : Hid (∀ w', Ext w w' → StP D n b S D.ni IN w (.returned (.tuple #[.slice none 0 0, .slice none 0 0, .iface 61 (I 4)])) w') := fun w' e => .inl ⟨by rw [HS4.out]; decide, by rw [HS4.out]; rfl, e⟩
      clear d ok hT hld hlo rd ro rs el r hm hE hz1 hch hnb hdl hc0 hn hbt hr hl hg HVL HST
      go_enter_defers Tryz.func104, Tryz.ntmps104
      go_upto_region 1 with fail
      rw [← hW1]; clear hW1
      go_wp2_with (first
        | (go_at_call 173; (with_reducible refine (HCK.out _ (Ext.refl _)).mono ?_); rintro e1 w1 ⟨rfl, h1⟩; have HX := Lib.hid h1; obtain ⟨y0, y1, y2, y3, y4⟩ := (show B5 W1 w.heap.size D p Ao lo co Ad n cd from ⟨c0, c1, c2, c3, c4⟩).ext h1; clear h1)
        | (go_at_call 175; (with_reducible refine (HV2.out _ HX.out).mono ?_); rintro e1 w2 ⟨rfl, h2⟩; have HX2 := Lib.hid (HX.out.trans h2); clear h2))
      have hlt2 : w.heap.size + 1 < w2.heap.size := Nat.lt_of_lt_of_le hlt1 HX2.out.size
      have e0 := (HX2.out.old.1 _ _ hlt1).trans hce
      have z0 := (HX2.out.old.2 _ _ hlt1).trans hfe
      refine leaves_cons (f := 174) (args := #[.pointer (some ⟨w.heap.size + 1, 0, none⟩)]) (by simp) (by simp [go_sem]) ?_
      refine (catch_long (w.heap.size + 1) _ e0 z0 (by omega)).mono ?_
      rintro e u' w'' ⟨rfl, rfl, rfl⟩
      have e9 : ((w2.alloc (.cells #[] 184)).setCell ⟨w.heap.size + 1, 0, none⟩ (.iface 61 (I 4))).cell? ⟨w.heap.size + 1, 0, none⟩ = some (.iface 61 (I 4)) :=
        World.cell?_setCell_same _ _ _ (by rw [World.cell?_alloc_old _ _ _ (show w.heap.size + 1 ≠ w2.heap.size by omega)]; exact e0)
      refine ⟨.tuple #[.slice none 0 0, .slice none 0 0, .iface 61 (I 4)], by simp [results, Tryz.results104, go_sem, e9], HQ.out _ ?_⟩
      exact ((HE.out.trans HX2.out).trans (Ext.alloc _ _)).set (show w.heap.size ≤ w.heap.size + 1 by omega) _
    | true =>
      have HS4 : Hid (stE D n b S D.ni IN = 0) := by show _ = _; rw [HST.out, if_neg (by rw [hg]; decide)]
      have HV2 : Hid (∀ w', Ext W1 w' → Calls Tryz.prog 175 #[evv D p Ao lo co Ad n cd, .slice As n cs, .slice Ai D.ni ci] w' (LvR D.nb (tkV D S IN) w')) := fun w' e => (HVL.out w' e).mono fun e w'' h => by
        rcases h with ⟨_, h1⟩ | ⟨h1, _⟩
        · exact h1
        · rw [hg] at h1; cases h1
      have HSO : Hid (∀ w', Ext W1 w' → Calls Tryz.prog 176 #[evv D p Ao lo co Ad n cd] w' (SoR n (srcs D) w')) := fun w' e => esources_any (d.ext (hE.trans e)) ok hld (rd.ext (hE.trans e))
      have hsrc : ∀ k, k < n → 0 ≤ srcs D k ∧ srcs D k < D.nb := fun k hk => by
        have hx := del_at (D := D) (k := k) (by omega)
        have hns : 0 < ns D ((delL D).getD k 0) := by
          have hk2 : (D.B ((delL D).getD k 0)).k = 2 := by have := hx.2; unfold isD at this; simpa using this
          have h := ok.ar _ hx.1
          have : arity (D.B ((delL D).getD k 0)).k = 1 := by rw [hk2]; decide
          unfold ns; rw [if_neg (by omega)]; omega
        have := (ok.src hx.1 hns).2.1
        unfold srcs; omega
      have HCH : Hid (∀ w' g R g2, Ext W1 w' → LvM w' g D.nb R (tkV D S IN) → Ri w' (some ⟨g2, 0, none⟩) n (srcs D) → Calls Tryz.prog 105 #[.slice (some ⟨g, 0, none⟩) D.nb D.nb, .slice (some ⟨g2, 0, none⟩) n n] w' (LvR n (nxS D (tkV D S IN)) w')) := fun w' g R g2 e l r => by
        have := chosen_any (c := D.nb) (cb := n) l.ln r hsrc (by omega) (hT.ext (hE.trans e))
        exact this
      clear d ok hT hld hlo rd ro rs el r hm hz1 hch hnb hdl hc0 hn hbt hr hl hg HVL HST hsrc hE
      go_enter_defers Tryz.func104, Tryz.ntmps104
      go_upto_region 1 with fail
      rw [← hW1]; clear hW1
      go_wp2_with (first
        | (go_at_call 173; (with_reducible refine (HCK.out _ (Ext.refl _)).mono ?_); rintro e1 w1 ⟨rfl, h1⟩; have HX := Lib.hid h1; obtain ⟨y0, y1, y2, y3, y4⟩ := (show B5 W1 w.heap.size D p Ao lo co Ad n cd from ⟨c0, c1, c2, c3, c4⟩).ext h1; clear h1)
        | (go_at_call 175; (with_reducible refine (HV2.out _ HX.out).mono ?_); rintro e1 w2 ⟨g1, R1, rfl, l1, hg1, nw1, h2⟩; have HN1 : Hid (W1.heap.size ≤ g1 ∧ ∀ i, i < D.nb → ∀ a, (R1 i).A = some a → W1.heap.size ≤ a.block) := ⟨Nat.le_trans HX.out.size hg1, fun i hi a ha => Nat.le_trans HX.out.size (nw1 i hi a ha)⟩; clear nw1; have HL1 := Lib.hid l1; have HX2 := Lib.hid (HX.out.trans h2); have HG1 := Lib.hid hg1; obtain ⟨y0, y1, y2, y3, y4⟩ := (show B5 W1 w.heap.size D p Ao lo co Ad n cd from ⟨c0, c1, c2, c3, c4⟩).ext (HX.out.trans h2); clear h2 l1 hg1)
        | (go_at_call 176; (with_reducible refine (HSO.out _ HX2.out).mono ?_); rintro e1 w3 ⟨g2, rfl, _, r2, h3⟩; have HL2 := Lib.hid (HL1.out.ext h3); have HR2 := Lib.hid r2; have HX3 := Lib.hid (HX2.out.trans h3); clear h3 r2)
        | (go_at_call 105; (with_reducible refine (HCH.out _ _ _ _ HX3.out HL2.out HR2.out).mono ?_); rintro e1 w4 ⟨g4, R4, rfl, l4, hg4, nw4, h4⟩; have HN4 : Hid (W1.heap.size ≤ g4 ∧ ∀ i, i < n → ∀ a, (R4 i).A = some a → W1.heap.size ≤ a.block) := ⟨Nat.le_trans HX3.out.size hg4, fun i hi a ha => Nat.le_trans HX3.out.size (nw4 i hi a ha)⟩; clear nw4; have HL4 := Lib.hid l4; have HL3 := Lib.hid (HL2.out.ext h4); have HX4 := Lib.hid (HX3.out.trans h4); have HG4 := Lib.hid hg4; have e0 := (HX4.out.old.1 _ _ hlt1).trans hce; have z0 := (HX4.out.old.2 _ _ hlt1).trans hfe; clear h4 l4 hg4))
      have hlt4 : w.heap.size + 1 < w4.heap.size := Nat.lt_of_lt_of_le hlt1 HX4.out.size
      refine leaves_cons (f := 174) (args := #[.pointer (some ⟨w.heap.size + 1, 0, none⟩)]) (by simp) (by simp [go_sem]) ?_
      refine (catch_idle _ _).mono ?_
      rintro e u' w'' ⟨rfl, rfl, rfl⟩
      have e9 : ((w4.setCell ⟨w.heap.size + 1, 0, none⟩ .nilIface).alloc (.cells #[] 184)).cell? ⟨w.heap.size + 1, 0, none⟩ = some .nilIface := by
        rw [World.cell?_alloc_old _ _ _ (by simp; omega)]; exact World.cell?_setCell_same _ _ _ e0
      refine ⟨.tuple #[.slice (some ⟨g4, 0, none⟩) n n, .slice (some ⟨g1, 0, none⟩) D.nb D.nb, .nilIface], by simp [results, Tryz.results104, go_sem, e9], .inr ⟨HS4.out, g4, R4, g1, R1, rfl, ?_, ?_, ?_, ?_, ?_⟩⟩
      · exact (HL4.out.off (fr_set _ _ _ _) (by have := HN4.out.1; omega) (fun i hi a ha => by have := HN4.out.2 i hi a ha; omega)).ext (Ext.alloc _ _)
      · exact (HL3.out.off (fr_set _ _ _ _) (by have := HN1.out.1; omega) (fun i hi a ha => by have := HN1.out.2 i hi a ha; omega)).ext (Ext.alloc _ _)
      · exact ⟨by have := HN4.out.1; omega, fun i hi a ha => by have := HN4.out.2 i hi a ha; omega⟩
      · exact ⟨by have := HN1.out.1; omega, fun i hi a ha => by have := HN1.out.2 i hi a ha; omega⟩
      · exact ((HE.out.trans HX4.out).set (show w.heap.size ≤ w.heap.size + 1 by omega) _).trans (Ext.alloc _ _)
end Go.Proofs.YtcdkkohklhmpgaaGreatDoor
