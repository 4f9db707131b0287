/- Package scales: what the statements begin with. -/
import Derived.Test.YtgnngldlgcdnfaaGreatDoorScd
import Derived.Test.YtgnngldlgcdnfaaGreatDoorScf
import Derived.Test.YtgnngldlgcdnfaaGreatDoorOpi
import Derived.Test.YtgnngldlgcdnfaaGreatDoorIrop
namespace Go.Proofs.YtgnngldlgcdnfaaGreatDoor
open Go Go.RowKit
attribute [local go_sem ↓] Go.wp_at_zero Go.wp_at_succ

/-- A constant and its negative. -/
def scD : Dia where
  ni := 0
  P := fun _ => ⟨0, 0, 0⟩
  nb := 2
  B := fun i => if i = 0 then ⟨1, 0, fun _ => 0, 0, 0, 0, 0⟩ else ⟨5, 1, fun _ => 0, 0, 0, 0, 0⟩
  no := 0
  O := fun _ => 0
def scP (w : World) : Pl where
  AI := none
  cI := 0
  AB := some ⟨w.heap.size + 1, 0, none⟩
  cB := 2
  AO := none
  cO := 0
  AA := fun i => if i = 0 then none else some ⟨w.heap.size, 0, none⟩
  cA := fun i => if i = 0 then 0 else 1
abbrev scV (w : World) : Value := .agg #[.slice none 0 0, .slice (some ⟨w.heap.size + 1, 0, none⟩) 2 2, .slice none 0 0]
abbrev sc2 (w : World) : World := (w.alloc (.cells #[I 0] 3)).alloc (.cells #[I 1, .slice none 0 0, I 0, I 0, I 0, I 0, I 5, .slice (some ⟨w.heap.size, 0, none⟩) 1 1, I 0, I 0, I 0, I 0] 79)
theorem sc_dm (w : World) : Dm (sc2 w) scD (scP w) where
  ports := fun h => by cases h
  blocks := fun _ => ⟨_, _, rfl, by simp, fun i hi => by
    have h2 : i = 0 ∨ i = 1 := by have : i < 2 := hi; omega
    rcases h2 with rfl | rfl
    · refine ⟨?_, ?_, ?_, ?_, ?_, ?_⟩ <;> go_simp <;> first | rfl | exact ⟨rfl, rfl, rfl⟩
    · refine ⟨?_, ?_, ?_, ?_, ?_, ?_⟩ <;> go_simp <;> first | rfl | exact ⟨rfl, rfl, rfl⟩⟩
  args := fun i hi => by
    have h2 : i = 0 ∨ i = 1 := by have : i < 2 := hi; omega
    rcases h2 with rfl | rfl
    · exact ⟨(fun h => by cases h), Nat.zero_le _⟩
    · refine ⟨fun _ => ⟨w.heap.size, 0, rfl, by simp; omega, fun j hj => ?_⟩, by show 1 ≤ _; unfold maxLen; omega⟩
      obtain rfl : j = 0 := by have : j < 1 := hj; omega
      have hne : ¬ w.heap.size = w.heap.size + 1 := by omega
      go_simp; rfl
  outs := fun h => by cases h
  li := Nat.zero_le _
  lb := by show 2 ≤ _; unfold maxLen; omega
  lo := Nat.zero_le _
  nA := fun i hi q => by
    have h2 : i = 0 ∨ i = 1 := by have : i < 2 := hi; omega
    rcases h2 with rfl | rfl
    · rfl
    · cases q
  nO := fun _ => rfl
  nI := fun _ => rfl
set_option maxRecDepth 100000 in
theorem sc_chk : chk scD = 0 := by kernel_rfl
def scX : IV := ⟨lo2 (ofI (-3) 0) (ofI 5 0), hi2 (ofI (-3) 0) (ofI 5 0)⟩
def scY : IV := ⟨lo2 (ofI (-1) 0) (ofI 1 0), hi2 (ofI (-1) 0) (ofI 1 0)⟩
set_option maxRecDepth 100000 in
theorem sc_x : chS scX = 27 := by kernel_rfl
set_option maxRecDepth 100000 in
theorem sc_y : chS scY = 30 := by kernel_rfl
def scS (i : Nat) : IV := if i = 0 then scX else scY
def scF (i : Nat) : Int := if i = 0 then 27 else 30
theorem sc_ch : chX scD 2 (fun _ => true) scS = 0 := by
  unfold chX
  rw [if_neg (by rw [sc_chk]; decide)]
  refine chE_ok (rgE_ok rfl fun _ _ => rfl) fun i hi => ?_
  have h2 : i = 0 ∨ i = 1 := by omega
  rcases h2 with rfl | rfl
  · show 0 ≤ chS scX; rw [sc_x]; decide
  · show 0 ≤ chS scY; rw [sc_y]; decide
theorem sc_F (i : Nat) (hi : i < 2) : chS (scS i) = scF i := by
  have h2 : i = 0 ∨ i = 1 := by omega
  rcases h2 with rfl | rfl
  · exact sc_x
  · exact sc_y
theorem sc_sh : shX scD 2 = 0 := by unfold shX; rw [if_neg (by rw [sc_chk]; decide)]; rfl
theorem sc_n : shN scD scF 2 = 1 := by kernel_rfl
theorem sc_ri (w : World) (t : TypeId) : Ri (w.alloc (.cells #[I 27, I 30] t)) (some ⟨w.heap.size, 0, none⟩) 2 scF := fun _ => ⟨_, _, rfl, by simp, fun i hi => by
  have h2 : i = 0 ∨ i = 1 := by omega
  rcases h2 with rfl | rfl <;> go_simp <;> first | rfl | exact ⟨rfl, rfl, rfl⟩⟩
abbrev twoI (w : World) (a b c d : DV) (A : Option Addr) (c1 : Nat) (B : Option Addr) (c2 : Nat) (C : Option Addr) (c3 : Nat) (E : Option Addr) (c4 : Nat) : World :=
  w.alloc (.cells #[.bool a.neg, .slice A (len a.m) c1, I a.den, .bool b.neg, .slice B (len b.m) c2, I b.den, .bool c.neg, .slice C (len c.m) c3, I c.den, .bool d.neg, .slice E (len d.m) c4, I d.den] 58)
theorem two_rn (w : World) (x y : IV) (A : Option Addr) (c1 : Nat) (B : Option Addr) (c2 : Nat) (C : Option Addr) (c3 : Nat) (E : Option Addr) (c4 : Nat) :
    RnI (twoI w x.lo x.hi y.lo y.hi A c1 B c2 C c3 E c4) (some ⟨w.heap.size, 0, none⟩) 2 (fun i => if i = 0 then ciR x A c1 B c2 else ciR y C c3 E c4) := fun _ => ⟨_, _, rfl, by simp, fun i hi => by
  have h2 : i = 0 ∨ i = 1 := by omega
  rcases h2 with rfl | rfl
  · refine ⟨?_, ?_, ?_, ?_, ?_, ?_⟩ <;> go_simp <;> first | rfl | exact ⟨rfl, rfl, rfl⟩
  · refine ⟨?_, ?_, ?_, ?_, ?_, ?_⟩ <;> go_simp <;> first | rfl | exact ⟨rfl, rfl, rfl⟩⟩
theorem ints_end (p : Int) (h : lmtOk p) : End (ofI p 0) := ⟨ofI_ok _ _, Nat.le_trans (len_mono (mkD_m_le _ _ _)) (Nat.le_trans (len_le (n := 2) (by have := h.1; have := h.2; unfold pB; omega)) (by decide))⟩
theorem end_min' {u v : DV} (hu : End u) (hv : End v) : End (minD u v) := ⟨minD_ok hu.1 hv.1, by unfold minD; split; exact hv.2; exact hu.2⟩
set_option maxRecDepth 100000 in
set_option maxHeartbeats 4000000 in
theorem scAwake_any (w : World) (hT : Tabs w) : Calls Tryz.prog 41 #[] w fun e w' => e = .returned (.bool true) ∧ Ext w w' := by
  obtain ⟨W1, hW1⟩ : ∃ W1, W1 = (sc2 w).alloc (.cells #[.slice none 0 0, .slice (some ⟨w.heap.size + 1, 0, none⟩) 2 2, .slice none 0 0] 26) := ⟨_, rfl⟩
  have hE2 : Ext (sc2 w) W1 := by rw [hW1]; exact Ext.alloc _ _
  have hE0 : Ext w (sc2 w) := (Ext.alloc _ _).trans (Ext.alloc _ _)
  have hz : (sc2 w).heap.size = w.heap.size + 1 + 1 := by simp
  have hbx : Bx W1 (w.heap.size + 1 + 1) (.slice none 0 0) (.slice (some ⟨w.heap.size + 1, 0, none⟩) 2 2) (.slice none 0 0) := by
    rw [hW1, ← hz]; exact Bx.new _ _ _ _ _
  have HBX : Hid (∀ w', Ext W1 w' → w'.cell? ⟨w.heap.size + 1 + 1, 0, none⟩ = some (.slice none 0 0) ∧ w'.cell? ⟨w.heap.size + 1 + 1, 1, none⟩ = some (.slice (some ⟨w.heap.size + 1, 0, none⟩) 2 2) ∧ w'.cell? ⟨w.heap.size + 1 + 1, 2, none⟩ = some (.slice none 0 0)) := fun w' e => (hbx.ext e).1
  have HE := Lib.hid (hE0.trans hE2)
  have d1 := (sc_dm w).ext hE2
  have hT1 := hT.ext (hE0.trans hE2)
  have e1 : End (ofI (-3) 0) := ints_end _ ⟨by decide, by decide⟩
  have e2 : End (ofI 5 0) := ints_end _ ⟨by decide, by decide⟩
  have e3 : End (ofI (-1) 0) := ints_end _ ⟨by decide, by decide⟩
  have e4 : End (ofI 1 0) := ints_end _ ⟨by decide, by decide⟩
  have HX : Hid (End scX.lo ∧ End scX.hi ∧ scX.lo.q ≤ scX.hi.q) := ⟨end_min' e1 e2, end_max' e1 e2, lo2_le e1.1 e2.1⟩
  have HY : Hid (End scY.lo ∧ End scY.hi ∧ scY.lo.q ≤ scY.hi.q) := ⟨end_min' e3 e4, end_max' e3 e4, lo2_le e3.1 e4.1⟩
  have HI1 : Hid (∀ w', Calls Tryz.prog 53 #[I (-3), I 5] w' (fun e w'' => ∃ A c B k, e = .returned (ivd scX.lo A c scX.hi B k) ∧ CnI w'' (ciR scX A c B k) scX ∧ Ext w' w'')) := fun w' => (riints_any (-3) 5 (by omega) (by omega) (by omega) (by omega)).mono fun e w'' h => by
    obtain ⟨A, c, B, k, h1, h2, _, h3⟩ := IvRes.cn (a := scX.lo) (b := scX.hi) h HX.out.1 HX.out.2.1 HX.out.2.2
    exact ⟨A, c, B, k, h1, h2, h3⟩
  have HI2 : Hid (∀ w', Calls Tryz.prog 53 #[I (-1), I 1] w' (fun e w'' => ∃ A c B k, e = .returned (ivd scY.lo A c scY.hi B k) ∧ CnI w'' (ciR scY A c B k) scY ∧ Ext w' w'')) := fun w' => (riints_any (-1) 1 (by omega) (by omega) (by omega) (by omega)).mono fun e w'' h => by
    obtain ⟨A, c, B, k, h1, h2, _, h3⟩ := IvRes.cn (a := scY.lo) (b := scY.hi) h HY.out.1 HY.out.2.1 HY.out.2.2
    exact ⟨A, c, B, k, h1, h2, h3⟩
  have HCH : Hid (∀ w' A c1 B c2 C c3 E c4, Ext W1 w' → CnI w' (ciR scX A c1 B c2) scX → CnI w' (ciR scY C c3 E c4) scY → Calls Tryz.prog 43 #[scV w, .slice (some ⟨w'.heap.size, 0, none⟩) 2 2] (twoI w' scX.lo scX.hi scY.lo scY.hi A c1 B c2 C c3 E c4)
      (fun e w'' => ∃ g, e = .returned (.tuple #[.slice (some ⟨g, 0, none⟩) 2 2, .nilIface]) ∧ Ri w'' (some ⟨g, 0, none⟩) 2 scF ∧ Ext (twoI w' scX.lo scX.hi scY.lo scY.hi A c1 B c2 C c3 E c4) w'')) := fun w' A c1 B c2 C c3 E c4 e cx cy => by
    have eA : Ext w' (twoI w' scX.lo scX.hi scY.lo scY.hi A c1 B c2 C c3 E c4) := Ext.alloc _ _
    have := Choose_any (c := 2) (S := scS) (b := fun _ => true) (d1.ext (e.trans eA)) (hT1.ext (e.trans eA)) (by omega) (two_rn w' scX scY A c1 B c2 C c3 E c4) (fun k hk => by
      have h2 : k = 0 ∨ k = 1 := by omega
      rcases h2 with rfl | rfl
      · exact ElI.of (cx.ext eA)
      · exact ElI.of (cy.ext eA))
    refine Calls.mono this fun x w'' hx => ?_
    rcases hx with ⟨h1, _⟩ | ⟨_, g, h2, h3⟩
    · exact absurd sc_ch h1
    · exact ⟨g, h2, h3.ri.congr fun i hi => sc_F i hi, h3.ext⟩
  have HSH : Hid (∀ w', Ext W1 w' → Calls Tryz.prog 49 #[scV w, .slice (some ⟨w'.heap.size, 0, none⟩) 2 2] (w'.alloc (.cells #[I 27, I 30] 3)) (fun e w'' => e = .returned (.tuple #[I 1, .nilIface]) ∧ Ext (w'.alloc (.cells #[I 27, I 30] 3)) w'')) := fun w' e => by
    have eA : Ext w' (w'.alloc (.cells #[I 27, I 30] 3)) := Ext.alloc _ _
    have := Shifts_any (e := 2) (d1.ext (e.trans eA)) (hT1.ext (e.trans eA)) (by unfold maxLen; omega) (sc_ri w' 3)
    refine Calls.mono this fun x w'' hx => ?_
    rcases hx with ⟨h1, _⟩ | ⟨_, h2, h3⟩
    · exact absurd sc_sh h1
    · have hn : shN scD scF scD.nb = 1 := sc_n
      rw [hn] at h2
      exact ⟨h2, h3⟩
  clear hT hE2 hE0 hz hbx d1 hT1 e1 e2 e3 e4 HX HY
  generalize scX = X at *
  generalize scY = Y at *
  obtain ⟨p1, p2⟩ := X
  obtain ⟨r1, r2⟩ := Y
  simp only at HI1 HI2 HCH
  obtain ⟨c0, c1, c2⟩ := HBX.out _ (Ext.refl _)
  go_enter Tryz.func41, Tryz.ntmps41
  go_upto_region 2 with fail
  rw [← hW1]; clear hW1
  go_region_held3 (fun w' => w'.cell? ⟨w.heap.size + 1 + 1, 0, none⟩ = some (.slice none 0 0) ∧ w'.cell? ⟨w.heap.size + 1 + 1, 1, none⟩ = some (.slice (some ⟨w.heap.size + 1, 0, none⟩) 2 2) ∧ w'.cell? ⟨w.heap.size + 1 + 1, 2, none⟩ = some (.slice none 0 0)) (first | with_reducible assumption | exact HBX.out _ (by (with_reducible (repeat (first | exact Ext.refl _ | assumption | (refine Ext.toSet ?_ (by omega)) | refine Ext.toAlloc ?_ | refine Ext.toDrew ?_ | refine Ext.toDrewN ?_ | refine Ext.trans ?_ (by assumption)))); (first | done | fail "no")))
    (first
      | (go_at_call 53; (with_reducible refine (HI1.out _).mono ?_); rintro e3 w3 ⟨A3, k3, B3, j3, rfl, cn3, hx3⟩; have CN3 := Lib.hid cn3; clear cn3)
      | (go_at_call 53; (with_reducible refine (HI2.out _).mono ?_); rintro e4 w4 ⟨A4, k4, B4, j4, rfl, cn4, hx4⟩; have CN4 := Lib.hid cn4; clear cn4)
      | (go_at_call 43; (with_reducible refine (HCH.out _ _ _ _ _ _ _ _ _ (by (with_reducible (repeat (first | exact Ext.refl _ | assumption | (refine Ext.toSet ?_ (by omega)) | refine Ext.toAlloc ?_ | refine Ext.toDrew ?_ | refine Ext.toDrewN ?_ | refine Ext.trans ?_ (by assumption)))); (first | done | fail "no")) (CN3.out.ext (by (with_reducible (repeat (first | exact Ext.refl _ | assumption | (refine Ext.toSet ?_ (by omega)) | refine Ext.toAlloc ?_ | refine Ext.toDrew ?_ | refine Ext.toDrewN ?_ | refine Ext.trans ?_ (by assumption)))); (first | done | fail "no"))) (CN4.out.ext (by (with_reducible (repeat (first | exact Ext.refl _ | assumption | (refine Ext.toSet ?_ (by omega)) | refine Ext.toAlloc ?_ | refine Ext.toDrew ?_ | refine Ext.toDrewN ?_ | refine Ext.trans ?_ (by assumption)))); (first | done | fail "no")))).mono ?_); rintro e5 w5 ⟨g5, rfl, ri5, hx5⟩; have RI5 := Lib.hid ri5; clear ri5))
  all_goals
    have HX5 := Lib.hid (show Ext W1 w5 from (by (with_reducible (repeat (first | exact Ext.refl _ | assumption | (refine Ext.toSet ?_ (by omega)) | refine Ext.toAlloc ?_ | refine Ext.toDrew ?_ | refine Ext.toDrewN ?_ | refine Ext.trans ?_ (by assumption)))); (first | done | fail "no")))
    clear c0 c1 c2
    obtain ⟨c0, c1, c2⟩ := HBX.out _ HX5.out
    go_wp2_with (first
      | (go_at_call 49; (with_reducible refine (HSH.out _ HX5.out).mono ?_); rintro e6 w6 ⟨rfl, hx6⟩)
      | (go_at_call 47; (with_reducible refine (ints_true (X := scF) (by omega) (RI5.out.ext (by (with_reducible (repeat (first | exact Ext.refl _ | assumption | (refine Ext.toSet ?_ (by omega)) | refine Ext.toAlloc ?_ | refine Ext.toDrew ?_ | refine Ext.toDrewN ?_ | refine Ext.trans ?_ (by assumption)))); (first | done | fail "no"))) (sc_ri _ _)).mono ?_); rintro e7 w7 ⟨rfl, hx7⟩))
    go_ret
    exact ⟨by simp, HE.out.trans (HX5.out.trans (by (with_reducible (repeat (first | exact Ext.refl _ | assumption | (refine Ext.toSet ?_ (by omega)) | refine Ext.toAlloc ?_ | refine Ext.toDrew ?_ | refine Ext.toDrewN ?_ | refine Ext.trans ?_ (by assumption)))); (first | done | fail "no")))⟩

/-! ### light -/
def litS (D : Dia) (n : Nat) (R : Nat → RI) (m : Nat) : Bool := litB D && (leI n R && decide (m ≤ 100))
abbrev rgv (A : Option Addr) (n c : Nat) (B : Option Addr) (m e : Nat) : Value := .agg #[.slice A n c, .slice B m e]
set_option maxRecDepth 100000 in
set_option maxHeartbeats 1000000 in
theorem scLight_any {w : World} {D : Dia} {p : Pl} {A B : Option Addr} {n c m e : Nat} {R : Nat → RI} (d : Dm w D p) (r : RnI w A n R) (hn : n ≤ maxLen) (hm : m ≤ maxLen) : Calls Tryz.prog 42 #[dgv D p, rgv A n c B m e] w fun e w' => e = .returned (.bool (litS D n R m)) ∧ Ext w w' := by
  unfold maxLen at hn hm
  obtain ⟨W1, hW1⟩ : ∃ W1, W1 = (w.alloc (.cells #[.slice p.AI D.ni p.cI, .slice p.AB D.nb p.cB, .slice p.AO D.no p.cO] 26)).alloc (.cells #[.slice A n c, .slice B m e] 86) := ⟨_, rfl⟩
  have hE : Ext w W1 := by rw [hW1]; exact (Ext.alloc _ _).trans (Ext.alloc _ _)
  have hbd : Bd W1 w.heap.size D p := by rw [hW1]; exact (Bd.new _ _ _ _).ext (Ext.alloc _ _)
  have HR : Hid (∀ w', Ext W1 w' → w'.cell? ⟨w.heap.size + 1, 0, none⟩ = some (.slice A n c) ∧ w'.cell? ⟨w.heap.size + 1, 1, none⟩ = some (.slice B m e)) := fun w' x => by
    have hl : w.heap.size + 1 < W1.heap.size := by rw [hW1]; simp
    exact ⟨(x.old.1 _ _ hl).trans (by rw [hW1]; go_simp), (x.old.1 _ _ hl).trans (by rw [hW1]; go_simp)⟩
  have HL : Hid (∀ w', Ext W1 w' → Calls Tryz.prog 12 #[dgv D p] w' fun e w'' => e = .returned (.bool (litB D)) ∧ Ext w' w'') := fun w' e => light_any (d.ext (hE.trans e))
  have HN : Hid (∀ w', Ext W1 w' → Calls Tryz.prog 13 #[.slice A n c] w' fun e w'' => e = .returned (.bool (leI n R)) ∧ Ext w' w'') := fun w' e => Lean_any (r.ext (hE.trans e)) (by unfold maxLen; omega)
  have HE := Lib.hid hE
  have c0 := hbd.c0; have c1 := hbd.c1; have c2 := hbd.c2
  obtain ⟨q0, q1⟩ := HR.out _ (Ext.refl _)
  unfold litS
  clear d r hE hbd
  generalize litB D = l1 at *
  generalize leI n R = l2 at *
  cases l1 with
  | false =>
    go_enter Tryz.func42, Tryz.ntmps42
    go_upto_region 1 with fail
    rw [← hW1]; clear hW1
    go_wp2_with (go_at_call 12; (with_reducible refine (HL.out _ (Ext.refl _)).mono ?_); rintro e1 w1 ⟨rfl, h1⟩; clear c0 c1 c2 q0 q1; obtain ⟨q0, q1⟩ := HR.out _ h1)
    go_ret
    exact ⟨rfl, HE.out.trans h1⟩
  | true =>
    cases l2 with
    | false =>
      go_enter Tryz.func42, Tryz.ntmps42
      go_upto_region 1 with fail
      rw [← hW1]; clear hW1
      go_wp2_with (first
        | (go_at_call 12; (with_reducible refine (HL.out _ (Ext.refl _)).mono ?_); rintro e1 w1 ⟨rfl, h1⟩; clear c0 c1 c2 q0 q1; obtain ⟨q0, q1⟩ := HR.out _ h1)
        | (go_at_call 13; (with_reducible refine (HN.out _ (by (with_reducible (repeat (first | exact Ext.refl _ | assumption | (refine Ext.toSet ?_ (by omega)) | refine Ext.toAlloc ?_ | refine Ext.toDrew ?_ | refine Ext.toDrewN ?_ | refine Ext.trans ?_ (by assumption)))); (first | done | fail "no"))).mono ?_); rintro e2 w2 ⟨rfl, h2⟩; clear q0 q1; obtain ⟨q0, q1⟩ := HR.out w2 (by (with_reducible (repeat (first | exact Ext.refl _ | assumption | (refine Ext.toSet ?_ (by omega)) | refine Ext.toAlloc ?_ | refine Ext.toDrew ?_ | refine Ext.toDrewN ?_ | refine Ext.trans ?_ (by assumption)))); (first | done | fail "no"))))
      go_ret
      exact ⟨rfl, HE.out.trans (by (with_reducible (repeat (first | exact Ext.refl _ | assumption | (refine Ext.toSet ?_ (by omega)) | refine Ext.toAlloc ?_ | refine Ext.toDrew ?_ | refine Ext.toDrewN ?_ | refine Ext.trans ?_ (by assumption)))); (first | done | fail "no"))⟩
    | true =>
      go_enter Tryz.func42, Tryz.ntmps42
      go_upto_region 1 with fail
      rw [← hW1]; clear hW1
      go_wp2_with (first
        | (go_at_call 12; (with_reducible refine (HL.out _ (Ext.refl _)).mono ?_); rintro e1 w1 ⟨rfl, h1⟩; clear c0 c1 c2 q0 q1; obtain ⟨q0, q1⟩ := HR.out _ h1)
        | (go_at_call 13; (with_reducible refine (HN.out _ (by (with_reducible (repeat (first | exact Ext.refl _ | assumption | (refine Ext.toSet ?_ (by omega)) | refine Ext.toAlloc ?_ | refine Ext.toDrew ?_ | refine Ext.toDrewN ?_ | refine Ext.trans ?_ (by assumption)))); (first | done | fail "no"))).mono ?_); rintro e2 w2 ⟨rfl, h2⟩; clear q0 q1; obtain ⟨q0, q1⟩ := HR.out w2 (by (with_reducible (repeat (first | exact Ext.refl _ | assumption | (refine Ext.toSet ?_ (by omega)) | refine Ext.toAlloc ?_ | refine Ext.toDrew ?_ | refine Ext.toDrewN ?_ | refine Ext.trans ?_ (by assumption)))); (first | done | fail "no"))))
      go_ret
      exact ⟨by first | rfl | (by_cases q : m ≤ 100 <;> simp [q] <;> omega), HE.out.trans (by (with_reducible (repeat (first | exact Ext.refl _ | assumption | (refine Ext.toSet ?_ (by omega)) | refine Ext.toAlloc ?_ | refine Ext.toDrew ?_ | refine Ext.toDrewN ?_ | refine Ext.trans ?_ (by assumption)))); (first | done | fail "no"))⟩
end Go.Proofs.YtgnngldlgcdnfaaGreatDoor
