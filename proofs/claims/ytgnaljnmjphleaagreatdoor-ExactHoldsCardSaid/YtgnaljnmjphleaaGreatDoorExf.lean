/- Package exact: Step and Start as they are called; what the laws begin with. -/
import Derived.Test.YtgnaljnmjphleaaGreatDoorExe
import Derived.Test.YtgnaljnmjphleaaGreatDoorDgq
namespace Go.Proofs.YtgnaljnmjphleaaGreatDoor
open Go Go.RowKit

/-! ### Step, Start -/
set_option maxRecDepth 100000 in
set_option maxHeartbeats 1000000 in
theorem Step_err {w : World} {D : Dia} {p : Pl} {As Ai : Option Addr} {n cs m ci : Nat} (d : Dm w D p) (hT : Tabs w) (h : chk D ≠ 0) :
    Calls Tryz.prog 11 #[dgv D p, .slice As n cs, .slice Ai m ci] w fun e w' => e = .returned (.tuple #[.slice none 0 0, .slice none 0 0, .iface 54 (I (chk D))]) ∧ Ext w w' := by
  have hb : Ext w w := Ext.refl _
  have HP : Hid (∀ w', Ext w w' → Calls Tryz.prog 34 #[dgv D p] w' fun e w'' => e = .returned (.tuple #[ev0, .iface 54 (I (chk D))]) ∧ Ext w' w'') := fun w' e => prepare_err (d.ext e) (hT.ext e) h
  clear d hT h
  generalize chk D = code at *
  go_enter Tryz.func11, Tryz.ntmps11
  go_wp2_with (go_at_call 34; (with_reducible refine (HP.out _ (hb.trans (Ext.alloc _ _))).mono ?_); rintro e1 w1 ⟨rfl, h1⟩; have HX1 := Lib.hid ((Ext.alloc _ _).trans h1); clear h1)
  refine bodyPost_ret (v := .tuple #[.slice none 0 0, .slice none 0 0, .iface 54 (I code)]) (by simp [results, Tryz.results11, go_sem]) rfl ⟨rfl, ?_⟩
  exact HX1.out.trans (Ext.alloc _ _)
set_option maxRecDepth 100000 in
set_option maxHeartbeats 1000000 in
theorem Start_err {w : World} {D : Dia} {p : Pl} (d : Dm w D p) (hT : Tabs w) (h : chk D ≠ 0) :
    Calls Tryz.prog 12 #[dgv D p] w fun e w' => e = .returned (.tuple #[.slice none 0 0, .iface 54 (I (chk D))]) ∧ Ext w w' := by
  have hb : Ext w w := Ext.refl _
  have HP : Hid (∀ w', Ext w w' → Calls Tryz.prog 34 #[dgv D p] w' fun e w'' => e = .returned (.tuple #[ev0, .iface 54 (I (chk D))]) ∧ Ext w' w'') := fun w' e => prepare_err (d.ext e) (hT.ext e) h
  clear d hT h
  generalize chk D = code at *
  go_enter Tryz.func12, Tryz.ntmps12
  go_wp2_with (go_at_call 34; (with_reducible refine (HP.out _ (hb.trans (Ext.alloc _ _))).mono ?_); rintro e1 w1 ⟨rfl, h1⟩; have HX1 := Lib.hid ((Ext.alloc _ _).trans h1); clear h1)
  refine bodyPost_ret (v := .tuple #[.slice none 0 0, .iface 54 (I code)]) (by simp [results, Tryz.results12, go_sem]) rfl ⟨rfl, ?_⟩
  exact HX1.out.trans (Ext.alloc _ _)
/-- The two ends of a tick, apart. -/
def StB (D : Dia) (n : Nat) (S : Nat → DV) (IN : Nat → Int) (w : World) (e : Ending) (w' : World) : Prop :=
  ∃ g R g' R', e = .returned (.tuple #[.slice (some ⟨g, 0, none⟩) n n, .slice (some ⟨g', 0, none⟩) D.nb D.nb, .nilIface]) ∧ LvM w' g n R (nxS D (tkV D S IN)) ∧ LvM w' g' D.nb R' (tkV D S IN) ∧ (w.heap.size ≤ g ∧ ∀ i, i < n → ∀ a, (R i).A = some a → w.heap.size ≤ a.block) ∧ (w.heap.size ≤ g' ∧ ∀ i, i < D.nb → ∀ a, (R' i).A = some a → w.heap.size ≤ a.block) ∧ Ext w w'
set_option maxRecDepth 100000 in
set_option maxHeartbeats 1000000 in
theorem Step_bad {w : World} {D : Dia} {p : Pl} {As Ai : Option Addr} {n cs m ci : Nat} {R : Nat → RN} {S : Nat → DV} {b : Nat → Bool} {IN : Nat → Int} (d : Dm w D p) (hT : Tabs w) (h : chk D = 0)
    (rs : Rn w As n R) (el : ∀ k, k < n → El w (R k) (S k) (b k)) (r : Ri w Ai m IN) (hm : m ≤ maxLen) (hs : stE D n b S m IN ≠ 0) :
    Calls Tryz.prog 11 #[dgv D p, .slice As n cs, .slice Ai m ci] w fun e w' => e = .returned (.tuple #[.slice none 0 0, .slice none 0 0, .iface 54 (I (stE D n b S m IN))]) ∧ Ext w w' := by
  have ok := chk_ok h
  have hb : Ext w w := Ext.refl _
  obtain ⟨lo, hlo⟩ : ∃ lo, (ordL D).length = lo := ⟨_, rfl⟩
  obtain ⟨ld, hld⟩ : ∃ ld, (delL D).length = ld := ⟨_, rfl⟩
  have HP2 : Hid (∀ w', Ext w w' → Calls Tryz.prog 34 #[dgv D p] w' (fun e w'' => ∃ Ao co Ad cd, e = .returned (.tuple #[evv D p Ao lo co Ad ld cd, .nilIface]) ∧ Rl w'' Ao co (ordL D) ∧ Rl w'' Ad cd (delL D) ∧ Ext w' w'')) := fun w' e => (prepare_ok (d.ext e) (hT.ext e) h).mono fun e w'' h => by
    obtain ⟨Ao, co, Ad, cd, he, h1, h2, h3⟩ := h
    rw [hlo, hld] at he
    exact ⟨Ao, co, Ad, cd, he, h1, h2, h3⟩
  have HST : Hid (∀ w' Ao co Ad cd, Ext w w' → Rl w' Ad cd (delL D) → Rl w' Ao co (ordL D) → Calls Tryz.prog 35 #[evv D p Ao lo co Ad ld cd, .slice As n cs, .slice Ai m ci] w' (fun e w'' => e = .returned (.tuple #[.slice none 0 0, .slice none 0 0, .iface 54 (I (stE D n b S m IN))]) ∧ Ext w' w'')) := fun w' Ao co Ad cd e rd ro =>
    (estep_any (cs := cs) (ci := ci) (d.ext e) ok (hT.ext e) hld hlo rd ro (rs.ext e) (fun k hk => (el k hk).ext e) (r.ext e) hm).mono fun e w'' h => by
      rcases h with ⟨h1, h2, h3⟩ | ⟨h1, _⟩
      · rw [errv_n h1] at h2; exact ⟨h2, h3⟩
      · exact absurd h1 hs
  clear d hT h ok rs el r hm hs hlo hld
  generalize stE D n b S m IN = code at *
  go_enter Tryz.func11, Tryz.ntmps11
  go_wp2_with (first
    | (go_at_call 34; (with_reducible refine (HP2.out _ (hb.trans (Ext.alloc _ _))).mono ?_); rintro e1 w1 ⟨Ao, co, Ad, cd, rfl, ro, rd, h1⟩; have HRO := Lib.hid ro; have HRD := Lib.hid rd; have HX1 := Lib.hid ((Ext.alloc _ _).trans h1); clear ro rd h1)
    | (go_at_call 35; (with_reducible refine (HST.out _ _ _ _ _ (HX1.out.trans (Ext.alloc _ _)) (HRD.out.ext (Ext.alloc _ _)) (HRO.out.ext (Ext.alloc _ _))).mono ?_); rintro e2 w2 ⟨rfl, h2⟩; have HX2 := Lib.hid ((HX1.out.trans (Ext.alloc _ _)).trans h2); clear h2))
  refine bodyPost_ret (v := .tuple #[.slice none 0 0, .slice none 0 0, .iface 54 (I code)]) (by simp [results, Tryz.results11, go_sem]) rfl ⟨rfl, HX2.out⟩
set_option maxRecDepth 100000 in
set_option maxHeartbeats 1000000 in
theorem Step_good {w : World} {D : Dia} {p : Pl} {As Ai : Option Addr} {n cs m ci : Nat} {R : Nat → RN} {S : Nat → DV} {b : Nat → Bool} {IN : Nat → Int} (d : Dm w D p) (hT : Tabs w) (h : chk D = 0)
    (rs : Rn w As n R) (el : ∀ k, k < n → El w (R k) (S k) (b k)) (r : Ri w Ai m IN) (hm : m ≤ maxLen) (hs : stE D n b S m IN = 0) :
    Calls Tryz.prog 11 #[dgv D p, .slice As n cs, .slice Ai m ci] w (StB D n S IN w) := by
  have ok := chk_ok h
  have hb : Ext w w := Ext.refl _
  obtain ⟨lo, hlo⟩ : ∃ lo, (ordL D).length = lo := ⟨_, rfl⟩
  obtain ⟨ld, hld⟩ : ∃ ld, (delL D).length = ld := ⟨_, rfl⟩
  have HP2 : Hid (∀ w', Ext w w' → Calls Tryz.prog 34 #[dgv D p] w' (fun e w'' => ∃ Ao co Ad cd, e = .returned (.tuple #[evv D p Ao lo co Ad ld cd, .nilIface]) ∧ Rl w'' Ao co (ordL D) ∧ Rl w'' Ad cd (delL D) ∧ Ext w' w'')) := fun w' e => (prepare_ok (d.ext e) (hT.ext e) h).mono fun e w'' h => by
    obtain ⟨Ao, co, Ad, cd, he, h1, h2, h3⟩ := h
    rw [hlo, hld] at he
    exact ⟨Ao, co, Ad, cd, he, h1, h2, h3⟩
  have HST : Hid (∀ w' Ao co Ad cd, Ext w w' → Rl w' Ad cd (delL D) → Rl w' Ao co (ordL D) → Calls Tryz.prog 35 #[evv D p Ao lo co Ad ld cd, .slice As n cs, .slice Ai m ci] w' (StB D n S IN w')) := fun w' Ao co Ad cd e rd ro =>
    (estep_any (cs := cs) (ci := ci) (d.ext e) ok (hT.ext e) hld hlo rd ro (rs.ext e) (fun k hk => (el k hk).ext e) (r.ext e) hm).mono fun e w'' h => by
      rcases h with ⟨h1, _⟩ | ⟨_, h2⟩
      · exact absurd hs h1
      · exact h2
  clear d hT h ok rs el r hm hs hlo hld
  go_enter Tryz.func11, Tryz.ntmps11
  go_wp2_with (first
    | (go_at_call 34; (with_reducible refine (HP2.out _ (hb.trans (Ext.alloc _ _))).mono ?_); rintro e1 w1 ⟨Ao, co, Ad, cd, rfl, ro, rd, h1⟩; have HRO := Lib.hid ro; have HRD := Lib.hid rd; have HX1 := Lib.hid ((Ext.alloc _ _).trans h1); clear ro rd h1)
    | (go_at_call 35; (with_reducible refine (HST.out _ _ _ _ _ (HX1.out.trans (Ext.alloc _ _)) (HRD.out.ext (Ext.alloc _ _)) (HRO.out.ext (Ext.alloc _ _))).mono ?_); rintro e2 w2 ⟨g, R2, g', R3, rfl, l1, l2, n1, n2, h2⟩; have HQ := Lib.hid (And.intro l1 (And.intro l2 (And.intro n1 (And.intro n2 h2)))); clear l1 l2 n1 n2 h2))
  have hs := HX1.out.size
  exact bodyPost_ret (v := .tuple #[.slice (some ⟨g, 0, none⟩) n n, .slice (some ⟨g', 0, none⟩) D.nb D.nb, .nilIface]) (by simp [results, Tryz.results11, go_sem]) rfl ⟨g, R2, g', R3, rfl, HQ.out.1, HQ.out.2.1, ⟨by have := HQ.out.2.2.1.1; simp only [World.size_alloc] at this; omega, fun i hi a ha => by have := HQ.out.2.2.1.2 i hi a ha; simp only [World.size_alloc] at this; omega⟩, ⟨by have := HQ.out.2.2.2.1.1; simp only [World.size_alloc] at this; omega, fun i hi a ha => by have := HQ.out.2.2.2.1.2 i hi a ha; simp only [World.size_alloc] at this; omega⟩, (HX1.out.trans (Ext.alloc _ _)).trans HQ.out.2.2.2.2⟩
/-- The initial state. -/
def SaB (D : Dia) (n : Nat) (w : World) (e : Ending) (w' : World) : Prop :=
  ∃ g R, e = .returned (.tuple #[.slice (some ⟨g, 0, none⟩) n n, .nilIface]) ∧ LvM w' g n R (s0S D) ∧ (w.heap.size ≤ g ∧ ∀ i, i < n → ∀ a, (R i).A = some a → w.heap.size ≤ a.block) ∧ Ext w w'
set_option maxRecDepth 100000 in
set_option maxHeartbeats 1000000 in
theorem Start_good {w : World} {D : Dia} {p : Pl} (d : Dm w D p) (hT : Tabs w) (h : chk D = 0) : Calls Tryz.prog 12 #[dgv D p] w (SaB D (delL D).length w) := by
  have ok := chk_ok h
  have hb : Ext w w := Ext.refl _
  obtain ⟨lo, hlo⟩ : ∃ lo, (ordL D).length = lo := ⟨_, rfl⟩
  obtain ⟨ld, hld⟩ : ∃ ld, (delL D).length = ld := ⟨_, rfl⟩
  have HP2 : Hid (∀ w', Ext w w' → Calls Tryz.prog 34 #[dgv D p] w' (fun e w'' => ∃ Ao co Ad cd, e = .returned (.tuple #[evv D p Ao lo co Ad ld cd, .nilIface]) ∧ Rl w'' Ao co (ordL D) ∧ Rl w'' Ad cd (delL D) ∧ Ext w' w'')) := fun w' e => (prepare_ok (d.ext e) (hT.ext e) h).mono fun e w'' h => by
    obtain ⟨Ao, co, Ad, cd, he, h1, h2, h3⟩ := h
    rw [hlo, hld] at he
    exact ⟨Ao, co, Ad, cd, he, h1, h2, h3⟩
  have HSA : Hid (∀ w' Ao co Ad cd, Ext w w' → Rl w' Ad cd (delL D) → Calls Tryz.prog 36 #[evv D p Ao lo co Ad ld cd] w' (LvR ld (s0S D) w')) := fun w' Ao co Ad cd e r => start_any (d.ext e) ok hld r (hT.ext e)
  rw [hld]
  clear d hT h ok hlo hld
  go_enter Tryz.func12, Tryz.ntmps12
  go_wp2_with (first
    | (go_at_call 34; (with_reducible refine (HP2.out _ (hb.trans (Ext.alloc _ _))).mono ?_); rintro e1 w1 ⟨Ao, co, Ad, cd, rfl, ro, rd, h1⟩; have HRD := Lib.hid rd; have HX1 := Lib.hid ((Ext.alloc _ _).trans h1); clear ro rd h1)
    | (go_at_call 36; (with_reducible refine (HSA.out _ _ _ _ _ (HX1.out.trans (Ext.alloc _ _)) (HRD.out.ext (Ext.alloc _ _))).mono ?_); rintro e2 w2 ⟨g, R2, rfl, l1, n1, n2, h2⟩; have HQ := Lib.hid (And.intro l1 (And.intro n1 (And.intro n2 h2))); clear l1 n1 n2 h2))
  have hs := HX1.out.size
  exact bodyPost_ret (v := .tuple #[.slice (some ⟨g, 0, none⟩) ld ld, .nilIface]) (by simp [results, Tryz.results12, go_sem]) rfl ⟨g, R2, rfl, HQ.out.1, ⟨by have := HQ.out.2.1; simp only [World.size_alloc] at this; omega, fun i hi a ha => by have := HQ.out.2.2.1 i hi a ha; simp only [World.size_alloc] at this; omega⟩, (HX1.out.trans (Ext.alloc _ _)).trans HQ.out.2.2.2⟩
/-! ### light, lean -/
def litX (D : Dia) (n : Nat) (m : Nat → Nat) : Bool := litB D && (decide (n ≤ 300) && (decide (n * D.nb ≤ 3000) && allN n fun t => decide (m t ≤ 40)))
def leaB (n : Nat) (L : Nat → Nat) (E : Nat → Int) : Bool := allN n (fun i => decide (L i ≤ 300) && decide (E i ≤ 20000)) && decide (n ≤ 100)
theorem lit_x {D : Dia} {n : Nat} {m : Nat → Nat} (h : litX D n m = true) : Lit D ∧ n ≤ 300 ∧ n * D.nb ≤ 3000 ∧ ∀ t, t < n → m t ≤ 40 := by
  unfold litX at h
  simp only [Bool.and_eq_true, decide_eq_true_eq] at h
  exact ⟨lit_of h.1, h.2.1, h.2.2.1, fun t ht => by have := allN_iff.1 h.2.2.2 t ht; simpa using this⟩
set_option maxRecDepth 100000 in
set_option maxHeartbeats 1000000 in
theorem lightX_any {w : World} {D : Dia} {p : Pl} {Al : Option Addr} {n cl : Nat} {AA : Nat → Option Addr} {m c : Nat → Nat} {IN : Nat → Nat → Int} (d : Dm w D p) (l : Lli w Al n AA m c IN) (hn : n ≤ maxLen) :
    Calls Tryz.prog 9 #[dgv D p, .slice Al n cl] w fun e w' => e = .returned (.bool (litX D n m)) ∧ Ext w w' := by
  unfold maxLen at hn
  obtain ⟨W1, hW1⟩ : ∃ W1, W1 = w.alloc (.cells #[.slice p.AI D.ni p.cI, .slice p.AB D.nb p.cB, .slice p.AO D.no p.cO] 26) := ⟨_, rfl⟩
  have hE : Ext w W1 := by rw [hW1]; exact Ext.alloc _ _
  have hbd : Bd W1 w.heap.size D p := by rw [hW1]; exact Bd.new _ _ _ _
  have HLT : Hid (∀ w', Ext W1 w' → Calls Tryz.prog 33 #[dgv D p] w' fun e w'' => e = .returned (.bool (litB D)) ∧ Ext w' w'') := fun w' e => light_any (d.ext (hE.trans e))
  have HB := Lib.hid hbd; have HE := Lib.hid hE; have HL := Lib.hid (l.ext hE)
  obtain ⟨c0, c1, c2⟩ := hbd
  clear d l hE
  cases hlit : litB D with
  | false =>
    have HV : Hid (litX D n m = false) := by show _ = _; unfold litX; rw [hlit]; rfl
    rw [hlit] at HLT
    rw [HV.out]
    clear hlit
    go_enter Tryz.func9, Tryz.ntmps9
    go_upto_region 1 with fail
    rw [← hW1]; clear hW1
    go_wp2_with (go_at_call 33; (with_reducible refine (HLT.out _ (Ext.refl _)).mono ?_); rintro e1 w1 ⟨rfl, h1⟩; have HX1 := Lib.hid h1; obtain ⟨d0, d1, d2⟩ := HB.out.ext h1; clear h1)
    go_ret
    exact ⟨rfl, HE.out.trans HX1.out⟩
  | true =>
    have hl80 := (lit_of hlit).nb
    have HX0 : Hid (litX D n m = (decide (n ≤ 300) && (decide (n * D.nb ≤ 3000) && allN n fun t => decide (m t ≤ 40)))) := by show _ = _; unfold litX; rw [hlit]; rfl
    rw [hlit] at HLT
    clear hlit
    by_cases h3 : 300 < n
    · have HV : Hid (litX D n m = false) := by show _ = _; rw [HX0.out, decide_eq_false (by omega)]; rfl
      rw [HV.out]
      have h3' : (300 : Int) < (n : Int) := by omega
      clear h3
      go_enter Tryz.func9, Tryz.ntmps9
      go_upto_region 1 with fail
      rw [← hW1]; clear hW1
      go_wp2_with (go_at_call 33; (with_reducible refine (HLT.out _ (Ext.refl _)).mono ?_); rintro e1 w1 ⟨rfl, h1⟩; have HX1 := Lib.hid h1; obtain ⟨d0, d1, d2⟩ := HB.out.ext h1; clear h1)
      go_ret
      exact ⟨rfl, HE.out.trans HX1.out⟩
    · have hmul : n * D.nb ≤ 300 * 80 := Nat.mul_le_mul (by omega) hl80
      obtain ⟨z, hz⟩ : ∃ z, n * D.nb = z := ⟨_, rfl⟩
      rw [hz] at hmul HX0
      have hw : IntKind.i64.wrap ((n : Int) * (D.nb : Int)) = (z : Int) := by rw [← hz, ← Int.natCast_mul]; exact IntWalk.i64_in _ (by rw [hz]; omega)
      have h3' : ¬ (300 : Int) < (n : Int) := by omega
      by_cases h4 : 3000 < z
      · have HV : Hid (litX D n m = false) := by show _ = _; rw [HX0.out, decide_eq_false (show ¬ z ≤ 3000 by omega)]; simp
        rw [HV.out]
        have h4' : (3000 : Int) < (z : Int) := by omega
        clear h3 h4 hz
        go_enter Tryz.func9, Tryz.ntmps9
        go_upto_region 1 with fail
        rw [← hW1]; clear hW1
        go_wp2_with (go_at_call 33; (with_reducible refine (HLT.out _ (Ext.refl _)).mono ?_); rintro e1 w1 ⟨rfl, h1⟩; have HX1 := Lib.hid h1; obtain ⟨d0, d1, d2⟩ := HB.out.ext h1; clear h1)
        go_ret
        exact ⟨rfl, HE.out.trans HX1.out⟩
      · have HX2 : Hid (litX D n m = allN n fun t => decide (m t ≤ 40)) := by show _ = _; rw [HX0.out, decide_eq_true (show n ≤ 300 by omega), decide_eq_true (show z ≤ 3000 by omega)]; rfl
        have h4' : ¬ (3000 : Int) < (z : Int) := by omega
        have hn3 : n ≤ 300 := by omega
        rw [HX2.out]
        clear h3 h4 hz HX0
        go_enter Tryz.func9, Tryz.ntmps9
        go_upto_region 1 with fail
        rw [← hW1]; clear hW1
        go_wp2_with (go_at_call 33; (with_reducible refine (HLT.out _ (Ext.refl _)).mono ?_); rintro e1 w1 ⟨rfl, h1⟩; have HX1 := Lib.hid h1; obtain ⟨d0, d1, d2⟩ := HB.out.ext h1; clear h1)
        clear c0 c1 c2 d0 d1 d2
        go_loopw [26] (fun s wr => ∃ t : Nat, t ≤ n ∧ s = I t ∧ Hid (Ext W1 wr) ∧ Hid (∀ i, i < t → m i ≤ 40)) (fun s _ => n - (intOf s).toNat)
        case atStart => exact ⟨0, Nat.zero_le _, rfl, HX1.out, fun i hi => absurd hi (by omega)⟩
        case round =>
          obtain ⟨t, ht, rfl, HX, HG⟩ := hrel
          by_cases hlt : t < n
          · obtain ⟨b, o, hbl, hbb, hc⟩ := (HL.out.ext HX.out).cells (by omega)
            have xl := hc t hlt
            have hml := (HL.out.rows t hlt).2
            unfold maxLen at hml
            have hlt' : (t : Int) < (n : Int) := by omega
            clear hc
            by_cases hq : m t ≤ 40
            · have HG2 : Hid (∀ i, i < t + 1 → m i ≤ 40) := fun i hi => by
                by_cases h : i = t
                · subst h; exact hq
                · exact HG.out i (by omega)
              have hq' : ¬ (40 : Int) < ((m t : Nat) : Int) := by omega
              clear hq
              generalize m t = mt at *
              go_wp2_with fail
              (try rw [← hbl])
              go_roundw
              case rel => exact ⟨t + 1, by omega, by go_num, HX.out, HG2⟩
              case measure => simp [intOf]; omega
            · have HC : Hid ((allN n fun t => decide (m t ≤ 40)) = false) := allN_false.2 ⟨t, hlt, by simpa using hq⟩
              have hq' : (40 : Int) < ((m t : Nat) : Int) := by omega
              clear hq
              generalize m t = mt at *
              go_wp2_with fail
              go_ret
              exact ⟨by rw [HC.out]; rfl, HE.out.trans HX.out⟩
          · obtain rfl : t = n := by omega
            have HC : Hid ((allN t fun t => decide (m t ≤ 40)) = true) := allN_iff.2 fun i hi => by have := HG.out i hi; simpa using this
            go_wp2_with fail
            go_ret
            exact ⟨by rw [HC.out]; rfl, HE.out.trans HX.out⟩
set_option maxRecDepth 100000 in
set_option maxHeartbeats 1000000 in
theorem lean_any {w : World} {As : Option Addr} {n cs : Nat} {R : Nat → RN} (rs : Rn w As n R) (hn : n ≤ maxLen) (hl : ∀ i, i < n → (R i).n ≤ maxLen) :
    Calls Tryz.prog 10 #[.slice As n cs] w fun e w' => e = .returned (.bool (leaB n (fun i => (R i).n) (fun i => (R i).den))) ∧ Ext w w' := by
  unfold maxLen at hn
  have HR := Lib.hid rs
  have HL := Lib.hid hl
  clear rs hl
  go_enter Tryz.func10, Tryz.ntmps10
  go_wp2_with fail
  go_loopw [7] (fun s wr => ∃ t : Nat, t ≤ n ∧ s = I t ∧ Hid (Ext w wr) ∧ Hid (∀ i, i < t → (R i).n ≤ 300 ∧ (R i).den ≤ 20000)) (fun s _ => n - (intOf s).toNat)
  case atStart => exact ⟨0, Nat.zero_le _, rfl, Ext.refl _, fun i hi => absurd hi (by omega)⟩
  case round =>
    obtain ⟨t, ht, rfl, HX, HG⟩ := hrel
    by_cases hlt : t < n
    · obtain ⟨b, o, hbl, hbb, hc⟩ := HR.out.ext HX.out (by omega)
      obtain ⟨x0, x1, x2⟩ := hc t hlt
      have hml := HL.out t hlt
      unfold maxLen at hml
      have hlt' : (t : Int) < (n : Int) := by omega
      clear hc
      by_cases hq : (R t).n ≤ 300
      · have hq' : ¬ (300 : Int) < ((R t).n : Int) := by omega
        by_cases hr : (R t).den ≤ 20000
        · have HG2 : Hid (∀ i, i < t + 1 → (R i).n ≤ 300 ∧ (R i).den ≤ 20000) := fun i hi => by
            by_cases h : i = t
            · subst h; exact ⟨hq, hr⟩
            · exact HG.out i (by omega)
          have hr' : ¬ (20000 : Int) < (R t).den := by omega
          clear hq hr
          generalize R t = rt at *
          go_wp2_with fail
          (try rw [← hbl])
          go_roundw
          case rel => exact ⟨t + 1, by omega, by go_num, HX.out.trans (Ext.alloc _ _), HG2⟩
          case measure => simp [intOf]; omega
        · have HC : Hid (leaB n (fun i => (R i).n) (fun i => (R i).den) = false) := by
            show _ = _; unfold leaB; rw [allN_false.2 ⟨t, hlt, by simp; omega⟩]; rfl
          have hr' : (20000 : Int) < (R t).den := by omega
          clear hq hr
          go_wp2_with fail
          go_ret
          exact ⟨by rw [HC.out]; rfl, HX.out.trans (Ext.alloc _ _)⟩
      · have HC : Hid (leaB n (fun i => (R i).n) (fun i => (R i).den) = false) := by
          show _ = _; unfold leaB; rw [allN_false.2 ⟨t, hlt, by simp; omega⟩]; rfl
        have hq' : (300 : Int) < ((R t).n : Int) := by omega
        clear hq
        go_wp2_with fail
        go_ret
        exact ⟨by rw [HC.out]; rfl, HX.out.trans (Ext.alloc _ _)⟩
    · obtain rfl : t = n := by omega
      have HC : Hid (leaB t (fun i => (R i).n) (fun i => (R i).den) = decide (t ≤ 100)) := by
        show _ = _; unfold leaB; rw [allN_iff.2 fun i hi => by have := HG.out i hi; simpa using this]; rfl
      by_cases hq : t ≤ 100
      · have hq' : (t : Int) ≤ 100 := by omega
        go_wp2_with fail
        go_ret
        exact ⟨by rw [HC.out, decide_eq_true hq]; simp, HX.out⟩
      · have hq' : ¬ (t : Int) ≤ 100 := by omega
        go_wp2_with fail
        go_ret
        exact ⟨by rw [HC.out, decide_eq_false hq]; simp, HX.out⟩
/-! ### Arguments -/
/-- Any struct of the form of a number counts by both sides alike. -/
theorem el_any {w : World} {r : RN} {f : Nat → Nat} (hr : Rd w r.A r.n f) (ok : SlOk r.A r.n r.c) (hb : ∀ i, i < r.n → f i < 4294967296) (hn : r.n ≤ 16777216) :
    El w r (nrA r.neg r.n f r.den) (vld r.neg r.n f r.den) ∧ Er w r (nrA r.neg r.n f r.den) (vld r.neg r.n f r.den) := by
  have hcn : vld r.neg r.n f r.den = true → Cn w r (nrA r.neg r.n f r.den) := fun hv => by
    have hd := Dy.any (neg := r.neg) (den := r.den) hr ok hb hn
    rw [if_pos hv, if_pos hv] at hd
    have e : nrA r.neg r.n f r.den = ⟨r.neg, valN f r.n, r.den.toNat⟩ := by unfold nrA; rw [if_pos hv]
    have hl : len (valN f r.n) = r.n := by
      refine len_valN hb (Nat.le_refl _) (fun i h1 h2 => by omega) ?_
      cases hrn : r.n with
      | zero => exact .inl rfl
      | succ k => rw [hrn, vld_succ] at hv; simp at hv; exact .inr (by simpa using hv.1.1.1)
    have hden : ((r.den.toNat : Nat) : Int) = r.den := by
      cases hrn : r.n with
      | zero => rw [hrn, vld_zero] at hv; simp at hv; omega
      | succ k => rw [hrn, vld_succ] at hv; simp at hv; have := hv.1.1.2; omega
    refine ⟨?_, hd.rd, hd.sl, hd.wf, hd.lim⟩
    rw [e]
    obtain ⟨neg, A, n, c, den⟩ := r
    show RN.mk neg A n c den = ⟨neg, A, len (valN f n), c, (den.toNat : Nat)⟩
    rw [hl, hden]
  exact ⟨⟨fun w' e => valid_any r.neg r.A r.n r.c r.den f w' (hr.ext e) hb (by omega), hcn⟩, ⟨fun w' e => rvalid_any r.neg r.A r.n r.c r.den f w' (hr.ext e) hb (by omega), hcn⟩⟩

structure Sts (w : World) (As : Option Addr) (n : Nat) (R : Nat → RN) (F : Nat → Nat → Nat) : Prop where
  rs : Rn w As n R
  hn : n ≤ maxLen
  rd : ∀ i, i < n → Rd w (R i).A (R i).n (F i)
  sl : ∀ i, i < n → SlOk (R i).A (R i).n (R i).c
  bd : ∀ i, i < n → ∀ j, j < (R i).n → F i j < 4294967296
theorem Sts.ext {w w' : World} {As : Option Addr} {n : Nat} {R : Nat → RN} {F : Nat → Nat → Nat} (h : Sts w As n R F) (e : Ext w w') : Sts w' As n R F := ⟨h.rs.ext e, h.hn, fun i hi => (h.rd i hi).ext e, h.sl, h.bd⟩
def stV (R : Nat → RN) (F : Nat → Nat → Nat) (i : Nat) : DV := nrA (R i).neg (R i).n (F i) (R i).den
def stO (R : Nat → RN) (F : Nat → Nat → Nat) (i : Nat) : Bool := vld (R i).neg (R i).n (F i) (R i).den
theorem Sts.el {w : World} {As : Option Addr} {n : Nat} {R : Nat → RN} {F : Nat → Nat → Nat} (h : Sts w As n R F) (hl : leaB n (fun i => (R i).n) (fun i => (R i).den) = true) :
    n ≤ 100 ∧ (∀ i, i < n → El w (R i) (stV R F i) (stO R F i)) ∧ (∀ i, i < n → Er w (R i) (stV R F i) (stO R F i)) := by
  unfold leaB at hl
  simp only [Bool.and_eq_true, decide_eq_true_eq] at hl
  have hk : ∀ i, i < n → (R i).n ≤ 300 := fun i hi => by have := allN_iff.1 hl.1 i hi; simp at this; exact this.1
  exact ⟨hl.2, fun i hi => (el_any (h.rd i hi) (h.sl i hi) (h.bd i hi) (by have := hk i hi; omega)).1, fun i hi => (el_any (h.rd i hi) (h.sl i hi) (h.bd i hi) (by have := hk i hi; omega)).2⟩
theorem li_one (w : World) (A : Option Addr) (m c : Nat) (IN : Nat → Int) (t : TypeId) (r : Ri w A m IN) (hm : m ≤ maxLen) :
    Lli (w.alloc (.cells #[.slice A m c] t)) (some ⟨w.heap.size, 0, none⟩) 1 (fun _ => A) (fun _ => m) (fun _ => c) (fun _ => IN) := by
  refine ⟨fun _ => ⟨w.heap.size, 0, rfl, by simp, fun t ht => ?_⟩, fun t _ => ⟨r.ext (Ext.alloc _ _), hm⟩⟩
  obtain rfl : t = 0 := by omega
  go_simp
end Go.Proofs.YtgnaljnmjphleaaGreatDoor
