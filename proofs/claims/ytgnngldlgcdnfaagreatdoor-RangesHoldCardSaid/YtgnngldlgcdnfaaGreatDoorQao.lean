import Derived.Test.YtgnngldlgcdnfaaGreatDoorQai
import Derived.Test.YtgnngldlgcdnfaaGreatDoorShelf
import Derived.Sort.OwnSortedInts
namespace Go.Proofs.YtgnngldlgcdnfaaGreatDoor
section
section
open Go Go.RowKit Go.Sort
end
section
open Go Go.RowKit
theorem SrP.congr {n : Nat} {f g : Nat → Int} {w w' : World} {e : Ending} (h : SrP n f w e w') (hfg : ∀ i, i < n → f i = g i) : SrP n g w e w' := by
 obtain ⟨A, c, h1, h2, h3, h4⟩ := h
 exact ⟨A, c, h1, h2.congr hfg, h3, h4⟩
end
section
open Go Go.RowKit
def LsE (L : List Nat) (w : World) (e : Ending) (w' : World) : Prop := ∃ A c, e = .returned (.tuple #[.slice A L.length c, .nilIface]) ∧ OwL w' w.heap.size A c L ∧ Ext w w'
section
variable {w : World} {D : Dia} {p : Pl}
set_option maxRecDepth 100000 in
set_option maxHeartbeats 1000000 in
theorem Order_err (d : Dm w D p) (hT : Tabs w) (h : chk D ≠ 0) : Calls Tryz.prog 114 #[dgv D p] w fun e w' => e = .returned (.tuple #[.slice none 0 0, .iface 48 (I (chk D))]) ∧ Ext w w' := by
 have HC : Hid (∀ w', Ext w w' → Calls Tryz.prog 21 #[dgv D p] w' fun e w'' => e = .returned (.iface 48 (I (chk D))) ∧ Ext w' w'') := fun w' e => by rw [← errv_n h]; exact check_any (d.ext e) (hT.ext e)
 clear d hT h
 generalize chk D = k at *
 go_enter Tryz.func114, Tryz.ntmps114
 go_wp2_with (go_at_call 21; (with_reducible refine (HC.out _ (Ext.alloc _ _)).mono ?_); rintro e w1 ⟨rfl, hb1⟩)
 go_ret2
 exact ⟨rfl, (Ext.alloc _ _).trans hb1⟩
set_option maxRecDepth 100000 in
set_option maxHeartbeats 1000000 in
theorem Order_ok (d : Dm w D p) (hT : Tabs w) (h : chk D = 0) : Calls Tryz.prog 114 #[dgv D p] w (LsE (ordL D) w) := by
 have HC : Hid (∀ w', Ext w w' → Calls Tryz.prog 21 #[dgv D p] w' fun e w'' => e = .returned .nilIface ∧ Ext w' w'') := fun w' e => by
  have := check_any (d.ext e) (hT.ext e); rw [h, errv_z] at this; exact this
 have HO : Hid (∀ w', Ext w w' → Calls Tryz.prog 67 #[dgv D p] w' (LsR (ordL D) w')) := fun w' e => order_any (d.ext e) (chk_ok h).toWF
 have HB := Lib.hid (Bd.new w D p 26)
 clear d hT h
 generalize ordL D = L at *
 go_enter Tryz.func114, Tryz.ntmps114
 go_wp2_with (first
  | (go_at_call 21; (with_reducible refine (HC.out _ (Ext.alloc _ _)).mono ?_); rintro e w1 ⟨rfl, hb1⟩; obtain ⟨c0, c1, c2⟩ := HB.out.ext hb1; have hz := hb1.size; simp at hz)
  | (go_at_call 67; (with_reducible refine (HO.out _ ((Ext.alloc _ _).trans hb1)).mono ?_); rintro e w2 ⟨A, k, rfl, o2, x2⟩; have O2 := Lib.hid o2; have X2 := Lib.hid x2; clear o2 x2))
 go_ret2
 exact ⟨A, k, rfl, O2.out.mono (by omega), ((Ext.alloc _ _).trans hb1).trans X2.out⟩
set_option maxRecDepth 100000 in
set_option maxHeartbeats 1000000 in
theorem Delays_ok (d : Dm w D p) (hT : Tabs w) (h : chk D = 0) : Calls Tryz.prog 115 #[dgv D p] w (LsE (delL D) w) := by
 have HC : Hid (∀ w', Ext w w' → Calls Tryz.prog 21 #[dgv D p] w' fun e w'' => e = .returned .nilIface ∧ Ext w' w'') := fun w' e => by
  have := check_any (d.ext e) (hT.ext e); rw [h, errv_z] at this; exact this
 have HO : Hid (∀ w', Ext w w' → Calls Tryz.prog 68 #[dgv D p] w' (LsR (delL D) w')) := fun w' e => delays_any (d.ext e) (by have := (chk_ok h).nb; omega)
 have HB := Lib.hid (Bd.new w D p 26)
 clear d hT h
 generalize delL D = L at *
 go_enter Tryz.func115, Tryz.ntmps115
 go_wp2_with (first
  | (go_at_call 21; (with_reducible refine (HC.out _ (Ext.alloc _ _)).mono ?_); rintro e w1 ⟨rfl, hb1⟩; obtain ⟨c0, c1, c2⟩ := HB.out.ext hb1; have hz := hb1.size; simp at hz)
  | (go_at_call 68; (with_reducible refine (HO.out _ ((Ext.alloc _ _).trans hb1)).mono ?_); rintro e w2 ⟨A, k, rfl, o2, x2⟩; have O2 := Lib.hid o2; have X2 := Lib.hid x2; clear o2 x2))
 go_ret2
 exact ⟨A, k, rfl, O2.out.mono (by omega), ((Ext.alloc _ _).trans hb1).trans X2.out⟩
end
end
end
section
section
open Go Go.RowKit
end
section
open Go Go.RowKit
set_option maxHeartbeats 400000 in
theorem num_err (k : Int) (w : World) :
  Calls Tryz.prog 17 #[.iface 48 (I k)] w fun e w' => e = .returned (I k) ∧ Ext w w' := by
 have ta := run_assert_int (P := Tryz.prog) (xT := 32) (v := I k) (w := w) Tryz.underlying48
 go_enter Tryz.func17, Tryz.ntmps17
 go_wp2
 go_ret
 exact ⟨rfl, Ext.refl _⟩
set_option maxHeartbeats 400000 in
theorem num_nil (w : World) :
  Calls Tryz.prog 17 #[.nilIface] w fun e w' => e = .returned (I 0) ∧ Ext w w' := by
 go_enter Tryz.func17, Tryz.ntmps17
 go_wp2
 go_ret
 exact ⟨rfl, Ext.refl _⟩
end
end
section
open Go Go.RowKit
def litB (D : Dia) : Bool := decide (D.ni ≤ 40 ∧ D.nb ≤ 80 ∧ D.no ≤ 40) && allN D.nb (fun i => decide ((D.B i).n ≤ 10))
structure Lit (D : Dia) : Prop where
 ni : D.ni ≤ 40
 nb : D.nb ≤ 80
 no : D.no ≤ 40
 ar : ∀ i, i < D.nb → (D.B i).n ≤ 10
theorem lit_sz {D : Dia} (h : ¬ (D.ni ≤ 40 ∧ D.nb ≤ 80 ∧ D.no ≤ 40)) : litB D = false := by unfold litB; rw [decide_eq_false h]; rfl
theorem lit_no {D : Dia} {j : Nat} (hj : j < D.nb) (h : ¬ (D.B j).n ≤ 10) : litB D = false := by
 unfold litB
 rw [allN_false.2 ⟨j, hj, by simpa using h⟩, Bool.and_false]
theorem lit_yes {D : Dia} (h : D.ni ≤ 40 ∧ D.nb ≤ 80 ∧ D.no ≤ 40) (h2 : ∀ i, i < D.nb → (D.B i).n ≤ 10) : litB D = true := by
 unfold litB
 rw [decide_eq_true h, allN_iff.2 fun i hi => by simpa using h2 i hi]; rfl
set_option maxRecDepth 100000 in
set_option maxHeartbeats 1000000 in
theorem light_any {w : World} {D : Dia} {p : Pl} (d : Dm w D p) : Calls Tryz.prog 12 #[dgv D p] w fun e w' => e = .returned (.bool (litB D)) ∧ Ext w w' := by
 have l1 := d.li; have l2 := d.lb; have l3 := d.lo
 unfold maxLen at l1 l2 l3
 by_cases hs : D.ni ≤ 40 ∧ D.nb ≤ 80 ∧ D.no ≤ 40
 ·have HS := Lib.hid hs
  have m1 : ¬ (40 : Int) < (D.ni : Int) := by omega
  have m2 : ¬ (80 : Int) < (D.nb : Int) := by omega
  have m3 : ¬ (40 : Int) < (D.no : Int) := by omega
  have hnb : D.nb ≤ 80 := hs.2.1
  clear hs
  have HBD := Lib.hid (Bd.new w D p 26)
  obtain ⟨W1, hW1⟩ : ∃ W1, W1 = w.alloc (.cells #[.slice p.AI D.ni p.cI, .slice p.AB D.nb p.cB, .slice p.AO D.no p.cO] 26) := ⟨_, rfl⟩
  have hE : Ext w W1 := by rw [hW1]; exact Ext.alloc _ _
  have HD := Lib.hid d
  have HE := Lib.hid hE
  have HW1 := Lib.hid hW1
  obtain ⟨c0, c1, c2⟩ := HBD.out
  clear d hE hW1
  go_enter Tryz.func12, Tryz.ntmps12
  go_wp2_with fail
  clear c0 c1 c2
  go_loopw [24] (fun s wr => ∃ j : Nat, j ≤ D.nb ∧ s = I j ∧ Hid (Ext W1 wr) ∧ Hid (∀ i, i < j → (D.B i).n ≤ 10)) (fun s _ => D.nb - (intOf s).toNat)
  case atStart => exact ⟨0, Nat.zero_le _, rfl, by rw [HW1.out]; exact Ext.refl _, fun i hi => absurd hi (by omega)⟩
  case round =>
   obtain ⟨j, hj, rfl, HX, HG⟩ := hrel
   by_cases hlt : j < D.nb
   ·have dd := HD.out.ext (HE.out.trans HX.out)
    obtain ⟨b, o, ha, hba, hc⟩ := dd.blocks (by omega)
    obtain ⟨x0, x1, x2, x3, x4, x5⟩ := hc j hlt
    have hn := (dd.args j hlt).2
    unfold maxLen at hn
    have hsz := HX.out.size
    clear hc dd
    have hlt' : (j : Int) < (D.nb : Int) := by omega
    by_cases hq : (D.B j).n ≤ 10
    ·have HG2 : Hid (∀ i, i < j + 1 → (D.B i).n ≤ 10) := fun i hi => by
      by_cases h : i = j
      ·subst h; exact hq
      ·exact HG.out i (by omega)
     have hq' : ¬ (10 : Int) < ((D.B j).n : Int) := by omega
     clear hq
     go_wp2_with fail
     (try rw [← ha])
     go_roundw
     case rel => exact ⟨j + 1, by omega, by go_num, HX.out.trans (Ext.alloc _ _), HG2⟩
     case measure => simp [intOf]; omega
    ·have HC := Lib.hid (lit_no hlt hq)
     have hq' : (10 : Int) < ((D.B j).n : Int) := by omega
     clear hq
     go_wp2_with fail
     go_ret
     exact ⟨by rw [HC.out]; rfl, HE.out.trans (HX.out.trans (Ext.alloc _ _))⟩
   ·obtain rfl : j = D.nb := by omega
    have HC := Lib.hid (lit_yes HS.out HG.out)
    go_wp2_with fail
    go_ret
    exact ⟨by rw [HC.out]; rfl, HE.out.trans HX.out⟩
 ·have HC := Lib.hid (lit_sz hs)
  rw [HC.out]
  by_cases h1 : D.ni ≤ 40
  ·have h1' : ¬ (40 : Int) < (D.ni : Int) := by omega
   by_cases h2 : D.nb ≤ 80
   ·have h2' : ¬ (80 : Int) < (D.nb : Int) := by omega
    have h3' : (40 : Int) < (D.no : Int) := by omega
    clear hs h1 h2 d
    go_enter Tryz.func12, Tryz.ntmps12
    go_wp2_with fail
    go_ret
    exact ⟨rfl, ext3⟩
   ·have h2' : (80 : Int) < (D.nb : Int) := by omega
    clear hs h1 h2 d
    go_enter Tryz.func12, Tryz.ntmps12
    go_wp2_with fail
    go_ret
    exact ⟨rfl, ext3⟩
  ·have h1' : (40 : Int) < (D.ni : Int) := by omega
   clear hs h1 d
   go_enter Tryz.func12, Tryz.ntmps12
   go_wp2_with fail
   go_ret
   exact ⟨rfl, ext3⟩
section
variable {w : World} {D : Dia} {p : Pl}
end
end
end Go.Proofs.YtgnngldlgcdnfaaGreatDoor
