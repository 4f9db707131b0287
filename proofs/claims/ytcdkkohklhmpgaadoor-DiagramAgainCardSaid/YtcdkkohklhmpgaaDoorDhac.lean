/- Diagrams: Same of two that are equal. -/
import Derived.Test.YtcdkkohklhmpgaaDoorDguv
namespace Go.Proofs.YtcdkkohklhmpgaaDoor

/-! ### Dha -/
section
open Go Go.RowKit

theorem two_bd (w : World) (D D' : Dia) (p q : Pl) (t t' : TypeId) :
    Bd ((w.alloc (.cells #[.slice p.AI D.ni p.cI, .slice p.AB D.nb p.cB, .slice p.AO D.no p.cO] t)).alloc (.cells #[.slice q.AI D'.ni q.cI, .slice q.AB D'.nb q.cB, .slice q.AO D'.no q.cO] t')) w.heap.size D p ∧
    Bd ((w.alloc (.cells #[.slice p.AI D.ni p.cI, .slice p.AB D.nb p.cB, .slice p.AO D.no p.cO] t)).alloc (.cells #[.slice q.AI D'.ni q.cI, .slice q.AB D'.nb q.cB, .slice q.AO D'.no q.cO] t')) (w.heap.size + 1) D' q := by
  refine ⟨(Bd.new _ _ _ _).ext (Ext.alloc _ _), ?_⟩
  have := Bd.new (w.alloc (.cells #[.slice p.AI D.ni p.cI, .slice p.AB D.nb p.cB, .slice p.AO D.no p.cO] t)) D' q t'
  rwa [show (w.alloc (.cells #[.slice p.AI D.ni p.cI, .slice p.AB D.nb p.cB, .slice p.AO D.no p.cO] t)).heap.size = w.heap.size + 1 by simp] at this

set_option maxRecDepth 100000 in
set_option maxHeartbeats 4000000 in
theorem same_true {w : World} {D : Dia} {p q : Pl} (d : Dm w D p) (d' : Dm w D q) : Calls Tryd.prog 8 #[dgv D p, dgv D q] w fun e w' => e = .returned (.bool true) ∧ Ext w w' := by
  have l1 := d.li; have l2 := d.lb; have l3 := d.lo
  unfold maxLen at l1 l2 l3
  obtain ⟨W1, hW1⟩ : ∃ W1, W1 = (w.alloc (.cells #[.slice p.AI D.ni p.cI, .slice p.AB D.nb p.cB, .slice p.AO D.no p.cO] 26)).alloc (.cells #[.slice q.AI D.ni q.cI, .slice q.AB D.nb q.cB, .slice q.AO D.no q.cO] 26) := ⟨_, rfl⟩
  have hE : Ext w W1 := by rw [hW1]; exact (Ext.alloc _ _).trans (Ext.alloc _ _)
  have hz1 : W1.heap.size = w.heap.size + 1 + 1 := by rw [hW1]; simp
  have HBD : Hid (Bd W1 w.heap.size D p ∧ Bd W1 (w.heap.size + 1) D q) := by show _ ∧ _; rw [hW1]; exact two_bd w D D p q _ _
  have HD := Lib.hid d
  have HD' := Lib.hid d'
  have HE := Lib.hid hE
  have HW1 := Lib.hid hW1
  have HB : Hid (∀ w', Ext W1 w' → (w'.cell? ⟨w.heap.size, 0, none⟩ = some (.slice p.AI D.ni p.cI) ∧ w'.cell? ⟨w.heap.size, 1, none⟩ = some (.slice p.AB D.nb p.cB) ∧ w'.cell? ⟨w.heap.size, 2, none⟩ = some (.slice p.AO D.no p.cO)) ∧
      (w'.cell? ⟨w.heap.size + 1, 0, none⟩ = some (.slice q.AI D.ni q.cI) ∧ w'.cell? ⟨w.heap.size + 1, 1, none⟩ = some (.slice q.AB D.nb q.cB) ∧ w'.cell? ⟨w.heap.size + 1, 2, none⟩ = some (.slice q.AO D.no q.cO))) := fun w' e => by
    have a := HBD.out.1.ext e; have b := HBD.out.2.ext e
    exact ⟨⟨a.c0, a.c1, a.c2⟩, ⟨b.c0, b.c1, b.c2⟩⟩
  have c012 := HB.out _ (Ext.refl _)
  rw [hW1] at c012
  obtain ⟨⟨c0, c1, c2⟩, e0, e1, e2⟩ := c012
  clear d d' hE hW1 HBD
  go_enter Tryd.func8, Tryd.ntmps8
  go_wp2_with fail
  clear c0 c1 c2 e0 e1 e2
  go_loopw [39] (fun s wr => ∃ j : Nat, j ≤ D.ni ∧ s = I j ∧ Hid (Ext W1 wr)) (fun s _ => D.ni - (intOf s).toNat)
  case atStart => exact ⟨0, Nat.zero_le _, rfl, by rw [HW1.out]; exact Ext.refl _⟩
  case round =>
    obtain ⟨j, hj, rfl, HX⟩ := hrel
    obtain ⟨⟨c0, c1, c2⟩, e0, e1, e2⟩ := HB.out _ HX.out
    by_cases hlt : j < D.ni
    · obtain ⟨b, o, ha, hba, hc⟩ := (HD.out.ext (HE.out.trans HX.out)).ports (by omega)
      obtain ⟨b', o', ha', hba', hc'⟩ := (HD'.out.ext (HE.out.trans HX.out)).ports (by omega)
      obtain ⟨x0, x1, x2⟩ := hc j hlt
      obtain ⟨y0, y1, y2⟩ := hc' j hlt
      have hlt' : (j : Int) < (D.ni : Int) := by omega
      generalize (D.P j).lo = lo at *
      generalize (D.P j).hi = hi at *
      generalize (D.P j).fr = fr at *
      clear hc hc'
      go_wp2_with fail
      go_quiet (fail)
      go_wp2_with fail
      (try rw [← ha]); (try rw [← ha'])
      go_roundw
      case rel => exact ⟨j + 1, by omega, by go_num, HX.out.trans (by repeat (first | exact Ext.refl _ | assumption | exact Ext.alloc _ _ | refine Ext.trans ?_ (by assumption) | refine Ext.trans ?_ (Ext.alloc _ _) | refine Ext.trans ?_ (Ext.drewN _ _) | refine Ext.trans ?_ (Ext.drew _)))⟩
      case measure => simp [intOf]; omega
    · obtain rfl : j = D.ni := by omega
      have HXa := HX
      go_wp2_with fail
      clear c0 c1 c2 e0 e1 e2
      go_loopw [57] (fun s wr => ∃ j : Nat, j ≤ D.nb ∧ s = I j ∧ Hid (Ext W1 wr)) (fun s _ => D.nb - (intOf s).toNat)
      case atStart => exact ⟨0, Nat.zero_le _, rfl, HXa⟩
      case round =>
        obtain ⟨j, hj, rfl, HX⟩ := hrel
        obtain ⟨⟨c0, c1, c2⟩, e0, e1, e2⟩ := HB.out _ HX.out
        by_cases hlt : j < D.nb
        · have dd := HD.out.ext (HE.out.trans HX.out)
          have dd' := HD'.out.ext (HE.out.trans HX.out)
          obtain ⟨b, o, ha, hba, hc⟩ := dd.blocks (by omega)
          obtain ⟨b', o', ha', hba', hc'⟩ := dd'.blocks (by omega)
          obtain ⟨x0, x1, x2, x3, x4, x5⟩ := hc j hlt
          obtain ⟨y0, y1, y2, y3, y4, y5⟩ := hc' j hlt
          have R := Lib.hid (dd.args j hlt).1
          have R' := Lib.hid (dd'.args j hlt).1
          have hm := (dd.args j hlt).2
          unfold maxLen at hm
          have hlt' : (j : Int) < (D.nb : Int) := by omega
          have hsz := HX.out.size
          have hz2 : w.heap.size + 1 < wr.heap.size := by omega
          generalize (D.B j).k = kj at *
          generalize (D.B j).n = mj at *
          generalize (D.B j).a = fj at *
          generalize (D.B j).vn = vn at *
          generalize (D.B j).ve = ve at *
          generalize (D.B j).un = un at *
          generalize (D.B j).ue = ue at *
          clear hc hc' dd dd'
          go_wp2_with fail
          have hba1 : Hid (b < wr.heap.size ∧ b' < wr.heap.size) := ⟨hba, hba'⟩
          obtain ⟨WX, hWX⟩ : ∃ WX, WX = (wr.alloc (.cells #[I kj, .slice (p.AA j) mj (p.cA j), I vn, I ve, I un, I ue] 38)).alloc (.cells #[I kj, .slice (q.AA j) mj (q.cA j), I vn, I ve, I un, I ue] 38) := ⟨_, rfl⟩
          have HXW : Hid (Ext wr WX) := by show Ext _ _; rw [hWX]; exact (Ext.alloc _ _).trans (Ext.alloc _ _)
          have HXB : Hid (∀ w', Ext WX w' → w'.cell? ⟨wr.heap.size, 1, none⟩ = some (.slice (p.AA j) mj (p.cA j)) ∧ w'.cell? ⟨wr.heap.size + 1, 1, none⟩ = some (.slice (q.AA j) mj (q.cA j))) := fun w' e => by
            have h1 : wr.heap.size < WX.heap.size := by rw [hWX]; simp; omega
            have h2 : wr.heap.size + 1 < WX.heap.size := by rw [hWX]; simp
            refine ⟨(e.old.1 _ _ h1).trans ?_, (e.old.1 _ _ h2).trans ?_⟩ <;> rw [hWX] <;> go_simp
          have HWX := Lib.hid hWX
          clear c0 c1 c2 e0 e1 e2 x0 x1 x2 x3 x4 x5 y0 y1 y2 y3 y4 y5
          have hmk : (0 : Int) ≤ (mj : Int) := by omega
          have HXX : Hid (Ext W1 WX) := HX.out.trans HXW.out
          have RX := Lib.hid (R.out.ext HXW.out); have RX' := Lib.hid (R'.out.ext HXW.out)
          clear HXW R R' hba1
          rw [← hWX]
          clear hWX
          generalize wr.heap.size = g at *
          clear HWX HX hba hba' hsz hz2
          go_loopw [98] (fun s wy => ∃ k : Nat, k ≤ mj ∧ s = I k ∧ Hid (Ext WX wy)) (fun s _ => mj - (intOf s).toNat)
          case atStart => exact ⟨0, Nat.zero_le _, rfl, Ext.refl _⟩
          case round =>
            obtain ⟨k, hk, rfl, HZ⟩ := hrel
            obtain ⟨z1, z2⟩ := HXB.out _ HZ.out
            by_cases hltk : k < mj
            · obtain ⟨b3, o3, ha3, hb3, hc3⟩ := RX.out (by omega)
              obtain ⟨b4, o4, ha4, hb4, hc4⟩ := RX'.out (by omega)
              have xa3 := (HZ.out.old.1 _ _ hb3).trans (hc3 k hltk)
              have xa4 := (HZ.out.old.1 _ _ hb4).trans (hc4 k hltk)
              have hltk' : (k : Int) < (mj : Int) := by omega
              clear hc3 hc4
              generalize fj k = y at xa3 xa4
              rw [ha3] at z1
              rw [ha4] at z2
              go_wp2_with fail
              go_quiet (fail)
              go_wp2_with fail
              (try rw [← ha3]); (try rw [← ha4]); (try rw [← ha]); (try rw [← ha'])
              go_roundw
              case rel => exact ⟨k + 1, by omega, by go_num, HZ.out.trans (by repeat (first | exact Ext.refl _ | assumption | exact Ext.alloc _ _ | refine Ext.trans ?_ (by assumption) | refine Ext.trans ?_ (Ext.alloc _ _) | refine Ext.trans ?_ (Ext.drewN _ _) | refine Ext.trans ?_ (Ext.drew _)))⟩
              case measure => simp [intOf]; omega
            · obtain rfl : k = mj := by omega
              go_wp2_with fail
              (try rw [← ha]); (try rw [← ha'])
              go_roundw
              case rel => exact ⟨j + 1, by omega, by go_num, HXX.out.trans HZ.out⟩
              case measure => simp [intOf]; omega
        · obtain rfl : j = D.nb := by omega
          have HXb := HX
          go_wp2_with fail
          clear c0 c1 c2 e0 e1 e2
          go_loopw [117] (fun s wr => ∃ j : Nat, j ≤ D.no ∧ s = I j ∧ Hid (Ext W1 wr)) (fun s _ => D.no - (intOf s).toNat)
          case atStart => exact ⟨0, Nat.zero_le _, rfl, HXb⟩
          case round =>
            obtain ⟨j, hj, rfl, HX⟩ := hrel
            obtain ⟨⟨c0, c1, c2⟩, e0, e1, e2⟩ := HB.out _ HX.out
            by_cases hlt : j < D.no
            · obtain ⟨b, o, ha, hba, hc⟩ := (HD.out.ext (HE.out.trans HX.out)).outs (by omega)
              obtain ⟨b', o', ha', hba', hc'⟩ := (HD'.out.ext (HE.out.trans HX.out)).outs (by omega)
              have x0 := hc j hlt
              have y0 := hc' j hlt
              have hlt' : (j : Int) < (D.no : Int) := by omega
              generalize D.O j = y at *
              clear hc hc'
              go_wp2_with fail
              go_quiet (fail)
              go_wp2_with fail
              (try rw [← ha]); (try rw [← ha'])
              go_roundw
              case rel => exact ⟨j + 1, by omega, by go_num, HX.out.trans (by repeat (first | exact Ext.refl _ | assumption | exact Ext.alloc _ _ | refine Ext.trans ?_ (by assumption) | refine Ext.trans ?_ (Ext.alloc _ _) | refine Ext.trans ?_ (Ext.drewN _ _) | refine Ext.trans ?_ (Ext.drew _)))⟩
              case measure => simp [intOf]; omega
            · obtain rfl : j = D.no := by omega
              go_wp2_with fail
              go_ret
              exact ⟨rfl, HE.out.trans HX.out⟩
end

/-! ### Dhc -/
section
open Go Go.RowKit

def addM (D : Dia) (i : Nat) (M : Nat → Bool) : Nat → Nat → Bool
  | 0 => M
  | k + 1 => fun x => if x = sr D i k then true else addM D i M k x
theorem addM_sub {D : Dia} {i : Nat} {M : Nat → Bool} (k x : Nat) (h : M x = true) : addM D i M k x = true := by
  induction k with
  | zero => exact h
  | succ k ih => show (if x = sr D i k then true else addM D i M k x) = true; split; rfl; exact ih
theorem addM_in {D : Dia} {i : Nat} {M : Nat → Bool} {k j : Nat} (h : j < k) : addM D i M k (sr D i j) = true := by
  induction k with
  | zero => omega
  | succ k ih =>
    show (if sr D i j = sr D i k then true else addM D i M k (sr D i j)) = true
    by_cases e : j = k
    · subst e; rw [if_pos rfl]
    · split
      · rfl
      · exact ih (by omega)
theorem addM_cases {D : Dia} {i : Nat} {M : Nat → Bool} {k x : Nat} (h : addM D i M k x = true) : M x = true ∨ ∃ j, j < k ∧ x = sr D i j := by
  induction k with
  | zero => exact .inl h
  | succ k ih =>
    have h' : (if x = sr D i k then true else addM D i M k x) = true := h
    by_cases e : x = sr D i k
    · exact .inr ⟨k, by omega, e⟩
    · rw [if_neg e] at h'
      rcases ih h' with a | ⟨j, hj, e2⟩
      · exact .inl a
      · exact .inr ⟨j, by omega, e2⟩

/-- What needed's loops keep: old memory, the box, the marks. -/
structure NdM (W0 w : World) (g3 gm : Nat) (D : Dia) (p : Pl) (M : Nat → Bool) : Prop where
  ext : Ext W0 w
  old : W0.heap.size ≤ gm
  box : Bd w g3 D p
  ne : gm ≠ g3
  row : w.rowIs gm 4 D.nb (fun i => .bool (M i))
theorem NdM.to {W0 w w' : World} {g3 gm : Nat} {D : Dia} {p : Pl} {M : Nat → Bool} (h : NdM W0 w g3 gm D p M) (e : Ext w w') : NdM W0 w' g3 gm D p M := ⟨h.ext.trans e, h.old, h.box.ext e, h.ne, h.row.ext e⟩
theorem NdM.put {W0 w : World} {g3 gm : Nat} {D : Dia} {p : Pl} {M : Nat → Bool} (h : NdM W0 w g3 gm D p M) (x : Nat) : NdM W0 (w.setCell ⟨gm, x, none⟩ (.bool true)) g3 gm D p (fun i => if i = x then true else M i) := by
  have ne : ∀ i, (w.setCell ⟨gm, x, none⟩ (.bool true)).cell? ⟨g3, i, none⟩ = w.cell? ⟨g3, i, none⟩ := fun i => World.cell?_setCell_other _ _ _ _ (by intro e; injection e with e; exact h.ne e)
  refine ⟨h.ext.set h.old _, h.old, ⟨(ne _).trans h.box.c0, (ne _).trans h.box.c1, (ne _).trans h.box.c2⟩, h.ne, (h.row.set x (.bool true)).congr fun i _ => ?_⟩
  by_cases q : i = x <;> simp [q]
def NdP (W0 : World) (gm nb : Nat) (N : Nx) (st : Nat → Bool) (e : Ending) (w' : World) : Prop :=
  ∃ S, e = .returned (.slice (some ⟨gm, 0, none⟩) nb nb) ∧ w'.rowIs gm 4 nb (fun i => .bool (S i)) ∧ IsR nb N st S ∧ Ext W0 w'
end

end Go.Proofs.YtcdkkohklhmpgaaDoor
