/- The fixed-point machine: cells and inputs that a program accepts, as the laws make them. -/
import Derived.Test.YtommlhdiefoocaaKla
namespace Go.Proofs.Ytommlhdiefoocaa
open Go Go.RowKit

def ftC (n : Nat) (F : Nat → Int) (i : Nat) : Int := kcl (if i < n then F i else 0) (-2147483648) 2147483647
def ftI (G : Pgm) (m : Nat) (E : Nat → Int) (i : Nat) : Int := kcl (if i < m then E i else 0) (G.P i).lo (G.P i).hi
theorem ftC_wd (n : Nat) (F : Nat → Int) (i : Nat) : wdB (ftC n F i) = true := wdB_iff.2 (kcl_bd _ _ _ (by omega))
theorem ftI_rg {G : Pgm} (h : ∀ i, i < G.np → prtE (G.P i) = 0) (m : Nat) (E : Nat → Int) (i : Nat) (hi : i < G.np) : (G.P i).lo ≤ ftI G m E i ∧ ftI G m E i ≤ (G.P i).hi := by
  have h3 := h i hi
  refine kcl_bd _ _ _ ?_
  unfold prtE at h3; split at h3
  · rename_i q; omega
  · omega
theorem ft_ok {G : Pgm} (h : chP G = 0) (n m : Nat) (F E : Nat → Int) : daE G G.nc (ftC n F) G.np (ftI G m E) = 0 := daE_of (fun i _ => ftC_wd n F i) (fun i hi => ftI_rg (chP_ok h).prt m E i hi)
theorem Ri.grown {w w' : World} {A : Option Addr} {n base : Nat} {f : Nat → Int} {row : Option Nat} (h : Ri w A n f) (e : w.grownBy w' row) (hA : 0 < n → ∀ b o, A = some ⟨b, o, none⟩ → b < base) (hr : ∀ r, row = some r → base ≤ r) : Ri w' A n f := fun h0 => by
  obtain ⟨b, o, ea, hb, hc⟩ := h h0
  have hlt := hA h0 b o ea
  have hk : w'.heap[b]? = w.heap[b]? := e.block b hb (fun q => by have := hr b q.symm; omega)
  exact ⟨b, o, ea, Nat.lt_of_lt_of_le hb e.size, fun i hi => by
    have q : w'.cell? ⟨b, o + i, none⟩ = w.cell? ⟨b, o + i, none⟩ := World.cell?_of_block hk
    rw [q]; exact hc i hi⟩
/-- The box of a pair of lists. -/
structure FtA (W w : World) (gb : Nat) (v0 v1 : Value) : Prop where
  ext : Ext W w
  box : w.rowIs gb 44 2 (b3 v0 v1 (.bool false))
  old : W.heap.size ≤ gb
section
variable {W w : World} {gb : Nat} {v0 v1 : Value}
theorem FtA.c0 (h : FtA W w gb v0 v1) : w.cell? ⟨gb, 0, none⟩ = some v0 := h.box.cell (by omega)
theorem FtA.c1 (h : FtA W w gb v0 v1) : w.cell? ⟨gb, 1, none⟩ = some v1 := h.box.cell (by omega)
theorem FtA.step {w' : World} (h : FtA W w gb v0 v1) (e : Ext w w') : FtA W w' gb v0 v1 := ⟨h.ext.trans e, h.box.ext e, h.old⟩
theorem FtA.grown {w' : World} {base : Nat} {row : Option Nat} (h : FtA W w gb v0 v1) (e : w.grownBy w' row) (hb : gb < base) (hr : ∀ r, row = some r → base ≤ r) : FtA W w' gb v0 v1 :=
  ⟨Below.grown h.ext e h.ext.size (fun r hr' => by have := hr r hr'; have := h.old; omega), h.box.of_block (e.block _ h.box.lt (fun q => by have := hr gb q.symm; omega)), h.old⟩
theorem FtA.put0 (h : FtA W w gb v0 v1) (v : Value) : FtA W (w.setCell ⟨gb, 0, none⟩ v) gb v v1 := ⟨h.ext.toSet h.old, (h.box.set 0 v).congr fun i hi => by
  have : i = 0 ∨ i = 1 := by omega
  rcases this with h | h <;> subst h <;> rfl, h.old⟩
theorem FtA.put1 (h : FtA W w gb v0 v1) (v : Value) : FtA W (w.setCell ⟨gb, 1, none⟩ v) gb v0 v := ⟨h.ext.toSet h.old, (h.box.set 1 v).congr fun i hi => by
  have : i = 0 ∨ i = 1 := by omega
  rcases this with h | h <;> subst h <;> rfl, h.old⟩
end
theorem ret_box2 {w : World} {g : Nat} {t : TypeId} {f : Nat → Value} (h : w.rowIs g t 2 f) (v0 v1 : Value) :
    (w.setCell ⟨g, 0, none⟩ v0).cell? ⟨g, 0, none⟩ = some v0 ∧ ((w.setCell ⟨g, 0, none⟩ v0).setCell ⟨g, 1, none⟩ v1).cell? ⟨g, 1, none⟩ = some v1 :=
  ⟨(h.set 0 v0).cell (by omega), ((h.set 0 v0).set 1 v1).cell (by omega)⟩
theorem box2r (w : World) (v0 v1 : Value) (t : TypeId) {g : Nat} (hg : g = w.heap.size) : (w.alloc (.cells #[v0, v1] t)).rowIs g t 2 (b3 v0 v1 (.bool false)) := by
  subst hg
  exact World.rowIs_alloc w #[v0, v1] t _ (fun i hi => by
    have : i = 0 ∨ i = 1 := by simp at hi; omega
    rcases this with h | h <;> subst h <;> rfl)
def FtR (G : Pgm) (n : Nat) (F : Nat → Int) (m : Nat) (E : Nat → Int) (w : World) (e : Ending) (w' : World) : Prop := ∃ A k B l, e = .returned (.agg #[.slice A G.nc k, .slice B G.np l]) ∧ Ri w' A G.nc (ftC n F) ∧ Ri w' B G.np (ftI G m E) ∧ (A = none → k = 0) ∧ Ext w w'
theorem ft_boxes (w : World) (G : Pgm) (p : Pp) (v0 v1 : Value) (t t' : TypeId) {W1 : World} (h : W1 = ((w.alloc (.cells #[.slice p.AP G.np p.cP, .slice p.AC G.nc p.cC, .slice p.AX G.ni p.cX, .slice p.AO G.no p.cO] t)).alloc (.cells #[v0, v1] t')).alloc (.cells #[.slice none 0 0, .slice none 0 0] t')) :
    Px W1 w.heap.size G p ∧ W1.rowIs (w.heap.size + 1) t' 2 (b3 v0 v1 (.bool false)) ∧ W1.rowIs (w.heap.size + 1 + 1) t' 2 (b3 (.slice none 0 0) (.slice none 0 0) (.bool false)) ∧ W1.heap.size = w.heap.size + 1 + 1 + 1 ∧ Ext w W1 := by
  subst h
  exact ⟨((Px.new w G p t).ext (Ext.alloc _ _)).ext (Ext.alloc _ _), (box2r _ _ _ _ (by simp)).ext (Ext.alloc _ _), box2r _ _ _ _ (by simp), by simp, ((Ext.alloc _ _).trans (Ext.alloc _ _)).trans (Ext.alloc _ _)⟩

set_option maxRecDepth 100000 in
set_option maxHeartbeats 4000000 in
theorem fitP_any {w : World} {G : Pgm} {p : Pp} {A B : Option Addr} {n c m e : Nat} {F E : Nat → Int} (d : Pm w G p) (h : chP G = 0) (ra : Ri w A n F) (rb : Ri w B m E) (hn : n ≤ maxLen) (hm : m ≤ maxLen) :
    Calls Try.prog 22 #[pgv G p, .agg #[.slice A n c, .slice B m e]] w (FtR G n F m E w) := by
  have ok := chP_ok h
  have n1 := ok.np
  have n2 := ok.nc
  have HPR : Hid (∀ i, i < G.np → (G.P i).lo ≤ (G.P i).hi) := fun i hi => by
    have h3 := ok.prt i hi
    unfold prtE at h3; split at h3
    · rename_i q; omega
    · omega
  unfold maxLen at hn hm
  have HRa := Lib.hid ra
  have HRb := Lib.hid rb
  have HPo := Lib.hid d.ports
  clear d h ra rb ok
  obtain ⟨W1, hW1⟩ : ∃ W1, W1 = ((w.alloc (.cells #[.slice p.AP G.np p.cP, .slice p.AC G.nc p.cC, .slice p.AX G.ni p.cX, .slice p.AO G.no p.cO] 26)).alloc (.cells #[.slice A n c, .slice B m e] 44)).alloc (.cells #[.slice none 0 0, .slice none 0 0] 44) := ⟨_, rfl⟩
  obtain ⟨b1, b2, b3', b4, b5⟩ := ft_boxes w G p _ _ _ _ hW1
  have HB := Lib.hid b1
  have HXB := Lib.hid b2
  have HRE := Lib.hid b3'
  have HZ := Lib.hid b4
  have HE := Lib.hid b5
  clear b1 b2 b3' b4 b5
  go_enter Try.func22, Try.ntmps22
  go_upto_region 1 with fail
  rw [← hW1]; clear hW1
  go_upto_region 2 with fail
  have HS : Hid (FtA W1 (W1.alloc (.cells #[.slice none 0 0, .slice none 0 0] 44)) W1.heap.size (.slice none 0 0) (.slice none 0 0)) := ⟨Ext.alloc _ _, box2r _ _ _ _ rfl, Nat.le_refl _⟩
  obtain ⟨W2, hW2⟩ : ∃ W2, W2 = W1.alloc (.cells #[.slice none 0 0, .slice none 0 0] 44) := ⟨_, rfl⟩
  rw [← hW2] at HS ⊢
  clear hW2
  obtain ⟨gb, hgb⟩ : ∃ gb, W1.heap.size = gb := ⟨_, rfl⟩
  rw [hgb] at HS HZ ⊢
  have HGB := Lib.hid hgb
  clear hgb
  obtain ⟨c0, c1, c2, c3⟩ := HB.out.ext HS.out.ext
  go_wp2_with fail
  clear c0 c1 c2 c3
  go_loopw [14] (fun s wr => ∃ (j : Nat) (Ao : Option Addr) (k : Nat), j ≤ G.nc ∧ s = I j ∧ Hid (FtA W1 wr gb (.slice Ao j k) (.slice none 0 0) ∧ OwI wr (gb + 1) Ao k (ftC n F) j)) (fun s _ => G.nc - (intOf s).toNat)
  case atStart => exact ⟨0, none, 0, Nat.zero_le _, rfl, HS.out, OwI.nil _ _ _⟩
  case round =>
    obtain ⟨j, Ao, k, hj, rfl, H⟩ := hrel
    by_cases hlt : j < G.nc
    · have hlt' : (j : Int) < (G.nc : Int) := by omega
      have x0 : wr.cell? ⟨w.heap.size + 1, 0, none⟩ = some (.slice A n c) := (HXB.out.ext H.out.1.ext).cell (by omega)
      have xl : w.heap.size + 1 < wr.heap.size := (HXB.out.ext H.out.1.ext).lt
      have p0 := H.out.1.c0
      have gl := H.out.1.box.lt
      obtain ⟨v, hv⟩ : ∃ v, (if j < n then F j else 0) = v := ⟨_, rfl⟩
      have HV : Hid (ftC n F j = kcl v (-2147483648) 2147483647) := by show _ = _; unfold ftC; rw [hv]
      have HCL : Hid (∀ w', Calls Try.prog 24 #[I v, I (-2147483648), I 2147483647] w' fun e w'' => e = .returned (I (ftC n F j)) ∧ Ext w' w'') := fun w' => by rw [HV.out]; exact clipP_any _ _ _ _ (by omega)
      obtain ⟨u, hu⟩ : ∃ u, ftC n F j = u := ⟨_, rfl⟩
      rw [hu] at HCL
      have HU := Lib.hid hu
      clear hu HV
      by_cases hjn : j < n
      · rw [if_pos hjn] at hv
        have hjn' : (j : Int) < (n : Int) := by omega
        obtain ⟨b, o, ea, hba, hc⟩ := (HRa.out.ext (HE.out.trans H.out.1.ext)) (by omega)
        have x1 := hc j hjn
        rw [hv] at x1
        have HPA := Lib.hid ea
        clear hc hv
        rw [ea] at x0
        go_upto_region 8 with fail
        have HS0 : Hid (∀ w', Ext wr w' → w'.cell? ⟨gb, 0, none⟩ = some (.slice Ao j k)) := fun w' e => (H.out.1.step e).c0
        clear x0 x1 xl
        go_region_law (first
          | (go_simp; go_at_call 24; (with_reducible refine (HCL.out _).mono ?_); rintro e1 w4 ⟨rfl, hx4⟩; have q0 : w4.cell? ⟨gb, 0, none⟩ = some (.slice Ao j k) := HS0.out _ (by (with_reducible (repeat (first | exact Ext.refl _ | assumption | (refine Ext.toSet ?_ (by omega)) | refine Ext.toAlloc ?_ | refine Ext.toDrew ?_ | refine Ext.toDrewN ?_ | refine Ext.trans ?_ (by assumption)))); (first | done | fail "no")); have ql : gb < w4.heap.size := World.block_lt_of_cell? w4 _ q0)
          | (refine appI_step (by rfl) (.tmp 28) (.tmp 31) (by rfl) (gb + 1) Ao k (ftC n F) j (by rfl) (H.out.2.ext (by (with_reducible (repeat (first | exact Ext.refl _ | assumption | (refine Ext.toSet ?_ (by omega)) | refine Ext.toAlloc ?_ | refine Ext.toDrew ?_ | refine Ext.toDrewN ?_ | refine Ext.trans ?_ (by assumption)))); (first | done | fail "no"))) ⟨w4.heap.size, 0, none⟩ 1 (by rfl) (by rw [HU.out]; go_simp) (by omega) (by have := (show Ext wr w4 from (by (with_reducible (repeat (first | exact Ext.refl _ | assumption | (refine Ext.toSet ?_ (by omega)) | refine Ext.toAlloc ?_ | refine Ext.toDrew ?_ | refine Ext.toDrewN ?_ | refine Ext.trans ?_ (by assumption)))); (first | done | fail "no"))).size; simp; omega) ?_; intro g9 cap w9 hown hgrow hat hltg; have ST := Lib.hid ((H.out.1.step (show Ext wr (w4.alloc _) from (by (with_reducible (repeat (first | exact Ext.refl _ | assumption | (refine Ext.toSet ?_ (by omega)) | refine Ext.toAlloc ?_ | refine Ext.toDrew ?_ | refine Ext.toDrewN ?_ | refine Ext.trans ?_ (by assumption)))); (first | done | fail "no")))).grown (base := gb + 1) hgrow (by omega) (fun r hr => (H.out.2.lt r hr).1)); have OWN := Lib.hid hown; have f1 := ST.out.c0; have f2 := ST.out.box.frozen 0; clear hown hgrow hat hltg))
        all_goals
          go_wp2_with fail
          (first | ((try rw [← HPA.out]); go_roundw; (case rel => exact ⟨j + 1, some ⟨g9, 0, none⟩, cap, (by omega), (by go_num), ST.out.put0 _, OWN.out.off (by omega) 0 _⟩); (case measure => simp [intOf]; omega)) | exact ⟨⟨_, ⟨j + 1, some ⟨g9, 0, none⟩, cap, (by omega), (by go_num), ST.out.put0 _, OWN.out.off (by omega) 0 _⟩, rfl⟩, by simp [intOf]; omega⟩ | exact ⟨⟨_, _, ⟨j + 1, some ⟨g9, 0, none⟩, cap, (by omega), (by go_num), ST.out.put0 _, OWN.out.off (by omega) 0 _⟩, rfl, rfl⟩, by simp [intOf]; omega⟩ | exact ⟨⟨_, _, _, ⟨j + 1, some ⟨g9, 0, none⟩, cap, (by omega), (by go_num), ST.out.put0 _, OWN.out.off (by omega) 0 _⟩, rfl, rfl, rfl⟩, by simp [intOf]; omega⟩ | exact ⟨⟨j + 1, some ⟨g9, 0, none⟩, cap, (by omega), (by go_num), ST.out.put0 _, OWN.out.off (by omega) 0 _⟩, by simp [intOf]; omega⟩)
      · rw [if_neg hjn] at hv
        subst hv
        have hjn' : ¬ (j : Int) < (n : Int) := by omega
        have HPA : Hid (A = A) := rfl
        go_upto_region 8 with fail
        have HS0 : Hid (∀ w', Ext wr w' → w'.cell? ⟨gb, 0, none⟩ = some (.slice Ao j k)) := fun w' e => (H.out.1.step e).c0
        clear x0 xl
        go_region_law (first
          | (go_simp; go_at_call 24; (with_reducible refine (HCL.out _).mono ?_); rintro e1 w4 ⟨rfl, hx4⟩; have q0 : w4.cell? ⟨gb, 0, none⟩ = some (.slice Ao j k) := HS0.out _ (by (with_reducible (repeat (first | exact Ext.refl _ | assumption | (refine Ext.toSet ?_ (by omega)) | refine Ext.toAlloc ?_ | refine Ext.toDrew ?_ | refine Ext.toDrewN ?_ | refine Ext.trans ?_ (by assumption)))); (first | done | fail "no")); have ql : gb < w4.heap.size := World.block_lt_of_cell? w4 _ q0)
          | (refine appI_step (by rfl) (.tmp 28) (.tmp 31) (by rfl) (gb + 1) Ao k (ftC n F) j (by rfl) (H.out.2.ext (by (with_reducible (repeat (first | exact Ext.refl _ | assumption | (refine Ext.toSet ?_ (by omega)) | refine Ext.toAlloc ?_ | refine Ext.toDrew ?_ | refine Ext.toDrewN ?_ | refine Ext.trans ?_ (by assumption)))); (first | done | fail "no"))) ⟨w4.heap.size, 0, none⟩ 1 (by rfl) (by rw [HU.out]; go_simp) (by omega) (by have := (show Ext wr w4 from (by (with_reducible (repeat (first | exact Ext.refl _ | assumption | (refine Ext.toSet ?_ (by omega)) | refine Ext.toAlloc ?_ | refine Ext.toDrew ?_ | refine Ext.toDrewN ?_ | refine Ext.trans ?_ (by assumption)))); (first | done | fail "no"))).size; simp; omega) ?_; intro g9 cap w9 hown hgrow hat hltg; have ST := Lib.hid ((H.out.1.step (show Ext wr (w4.alloc _) from (by (with_reducible (repeat (first | exact Ext.refl _ | assumption | (refine Ext.toSet ?_ (by omega)) | refine Ext.toAlloc ?_ | refine Ext.toDrew ?_ | refine Ext.toDrewN ?_ | refine Ext.trans ?_ (by assumption)))); (first | done | fail "no")))).grown (base := gb + 1) hgrow (by omega) (fun r hr => (H.out.2.lt r hr).1)); have OWN := Lib.hid hown; have f1 := ST.out.c0; have f2 := ST.out.box.frozen 0; clear hown hgrow hat hltg))
        all_goals
          go_wp2_with fail
          (first | ((try rw [← HPA.out]); go_roundw; (case rel => exact ⟨j + 1, some ⟨g9, 0, none⟩, cap, (by omega), (by go_num), ST.out.put0 _, OWN.out.off (by omega) 0 _⟩); (case measure => simp [intOf]; omega)) | exact ⟨⟨_, ⟨j + 1, some ⟨g9, 0, none⟩, cap, (by omega), (by go_num), ST.out.put0 _, OWN.out.off (by omega) 0 _⟩, rfl⟩, by simp [intOf]; omega⟩ | exact ⟨⟨_, _, ⟨j + 1, some ⟨g9, 0, none⟩, cap, (by omega), (by go_num), ST.out.put0 _, OWN.out.off (by omega) 0 _⟩, rfl, rfl⟩, by simp [intOf]; omega⟩ | exact ⟨⟨_, _, _, ⟨j + 1, some ⟨g9, 0, none⟩, cap, (by omega), (by go_num), ST.out.put0 _, OWN.out.off (by omega) 0 _⟩, rfl, rfl, rfl⟩, by simp [intOf]; omega⟩ | exact ⟨⟨j + 1, some ⟨g9, 0, none⟩, cap, (by omega), (by go_num), ST.out.put0 _, OWN.out.off (by omega) 0 _⟩, by simp [intOf]; omega⟩)
    · obtain rfl : j = G.nc := by omega
      obtain ⟨wb, hwb⟩ : ∃ wb, wb = wr := ⟨_, rfl⟩
      subst hwb
      have HFB := H
      clear H
      have HGL : Hid (gb < wb.heap.size) := HFB.out.1.box.lt
      have HAL : Hid (0 < G.nc → ∀ b o, Ao = some ⟨b, o, none⟩ → b < wb.heap.size) := fun _ b o e => (HFB.out.2.blk b o e).2
      have HAN : Hid (0 < G.nc → ∀ b o, Ao = some ⟨b, o, none⟩ → b ≠ gb) := fun _ b o e => by have := (HFB.out.2.blk b o e).1; omega
      have HNZ := Lib.hid HFB.out.2.nz
      obtain ⟨c0, c1, c2, c3⟩ := HB.out.ext HFB.out.1.ext
      go_wp2_with fail
      clear c0 c1 c2 c3
      go_loopw [38] (fun s wr => ∃ (j : Nat) (Bo : Option Addr) (l : Nat), j ≤ G.np ∧ s = I j ∧ Hid (FtA W1 wr gb (.slice Ao G.nc k) (.slice Bo j l) ∧ Ri wr Ao G.nc (ftC n F) ∧ OwI wr wb.heap.size Bo l (ftI G m E) j ∧ wb.heap.size ≤ wr.heap.size)) (fun s _ => G.np - (intOf s).toNat)
      case atStart => exact ⟨0, none, 0, Nat.zero_le _, rfl, HFB.out.1, HFB.out.2.ri, OwI.nil _ _ _, Nat.le_refl _⟩
      case round =>
        obtain ⟨j, Bo, l, hj, rfl, H⟩ := hrel
        by_cases hlt : j < G.np
        · have hlt' : (j : Int) < (G.np : Int) := by omega
          have x0 : wr.cell? ⟨w.heap.size + 1, 1, none⟩ = some (.slice B m e) := (HXB.out.ext H.out.1.ext).cell (by omega)
          have xl : w.heap.size + 1 < wr.heap.size := (HXB.out.ext H.out.1.ext).lt
          have p0 := H.out.1.c1
          have gl := H.out.1.box.lt
          obtain ⟨bp, op, ep, hbp, hcp⟩ := (HPo.out.ext (HE.out.trans H.out.1.ext)) (by omega)
          obtain ⟨z0, z1, z2⟩ := hcp j hlt
          have hle := HPR.out j hlt
          obtain ⟨v, hv⟩ : ∃ v, (if j < m then E j else 0) = v := ⟨_, rfl⟩
          have HV : Hid (ftI G m E j = kcl v (G.P j).lo (G.P j).hi) := by show _ = _; unfold ftI; rw [hv]
          have HCL : Hid (∀ w', Calls Try.prog 24 #[I v, I (G.P j).lo, I (G.P j).hi] w' fun e w'' => e = .returned (I (ftI G m E j)) ∧ Ext w' w'') := fun w' => by rw [HV.out]; exact clipP_any _ _ _ _ hle
          obtain ⟨u, hu⟩ : ∃ u, ftI G m E j = u := ⟨_, rfl⟩
          rw [hu] at HCL
          have HU := Lib.hid hu
          have HPP := Lib.hid ep
          clear hu HV hcp hle
          generalize (G.P j).lo = lo at *
          generalize (G.P j).hi = hi at *
          generalize (G.P j).fr = fr at *
          by_cases hjn : j < m
          · rw [if_pos hjn] at hv
            have hjn' : (j : Int) < (m : Int) := by omega
            obtain ⟨b, o, ea, hba, hc⟩ := (HRb.out.ext (HE.out.trans H.out.1.ext)) (by omega)
            have x1 := hc j hjn
            rw [hv] at x1
            have HPA := Lib.hid ea
            clear hc hv
            rw [ea] at x0
            go_upto_region 16 with fail
            have HS0 : Hid (∀ w', Ext wr w' → w'.cell? ⟨gb, 1, none⟩ = some (.slice Bo j l)) := fun w' e => (H.out.1.step e).c1
            clear x0 x1 xl
            go_region_law (first
              | (go_simp; go_at_call 24; (with_reducible refine (HCL.out _).mono ?_); rintro e1 w4 ⟨rfl, hx4⟩; have q0 : w4.cell? ⟨gb, 1, none⟩ = some (.slice Bo j l) := HS0.out _ (by (with_reducible (repeat (first | exact Ext.refl _ | assumption | (refine Ext.toSet ?_ (by omega)) | refine Ext.toAlloc ?_ | refine Ext.toDrew ?_ | refine Ext.toDrewN ?_ | refine Ext.trans ?_ (by assumption)))); (first | done | fail "no")); have ql : gb < w4.heap.size := World.block_lt_of_cell? w4 _ q0)
              | (refine appI_step (by rfl) (.tmp 54) (.tmp 61) (by rfl) wb.heap.size Bo l (ftI G m E) j (by rfl) (H.out.2.2.1.ext (by (with_reducible (repeat (first | exact Ext.refl _ | assumption | (refine Ext.toSet ?_ (by omega)) | refine Ext.toAlloc ?_ | refine Ext.toDrew ?_ | refine Ext.toDrewN ?_ | refine Ext.trans ?_ (by assumption)))); (first | done | fail "no"))) ⟨w4.heap.size, 0, none⟩ 1 (by rfl) (by rw [HU.out]; go_simp) (by omega) (by have := (show Ext wr w4 from (by (with_reducible (repeat (first | exact Ext.refl _ | assumption | (refine Ext.toSet ?_ (by omega)) | refine Ext.toAlloc ?_ | refine Ext.toDrew ?_ | refine Ext.toDrewN ?_ | refine Ext.trans ?_ (by assumption)))); (first | done | fail "no"))).size; have := H.out.2.2.2; simp; omega) ?_; intro g9 cap w9 hown hgrow hat hltg; have ST := Lib.hid ((H.out.1.step (show Ext wr (w4.alloc _) from (by (with_reducible (repeat (first | exact Ext.refl _ | assumption | (refine Ext.toSet ?_ (by omega)) | refine Ext.toAlloc ?_ | refine Ext.toDrew ?_ | refine Ext.toDrewN ?_ | refine Ext.trans ?_ (by assumption)))); (first | done | fail "no")))).grown (base := wb.heap.size) hgrow HGL.out (fun r hr => (H.out.2.2.1.lt r hr).1)); have STA := Lib.hid ((H.out.2.1.ext (show Ext wr (w4.alloc _) from (by (with_reducible (repeat (first | exact Ext.refl _ | assumption | (refine Ext.toSet ?_ (by omega)) | refine Ext.toAlloc ?_ | refine Ext.toDrew ?_ | refine Ext.toDrewN ?_ | refine Ext.trans ?_ (by assumption)))); (first | done | fail "no")))).grown (base := wb.heap.size) hgrow HAL.out (fun r hr => (H.out.2.2.1.lt r hr).1)); have OWN := Lib.hid hown; have SZ : Hid (wb.heap.size ≤ w9.heap.size) := Nat.le_trans (Nat.le_trans H.out.2.2.2 (show Ext wr (w4.alloc _) from (by (with_reducible (repeat (first | exact Ext.refl _ | assumption | (refine Ext.toSet ?_ (by omega)) | refine Ext.toAlloc ?_ | refine Ext.toDrew ?_ | refine Ext.toDrewN ?_ | refine Ext.trans ?_ (by assumption)))); (first | done | fail "no"))).size) hgrow.size; have f1 := ST.out.c1; have f2 := ST.out.box.frozen 1; clear hown hgrow hat hltg))
            all_goals
              go_wp2_with fail
              (try rw [← HPP.out])
              ((try rw [← HPA.out]); go_roundw; (case rel => exact ⟨j + 1, some ⟨g9, 0, none⟩, cap, (by omega), (by go_num), ST.out.put1 _, STA.out.setOther (a := ⟨gb, 1, none⟩) HAN.out _, OWN.out.off HGL.out 1 _, (by simpa using SZ.out)⟩); (case measure => simp [intOf]; omega))
          · rw [if_neg hjn] at hv
            subst hv
            have hjn' : ¬ (j : Int) < (m : Int) := by omega
            have HPA : Hid (B = B) := rfl
            go_upto_region 16 with fail
            have HS0 : Hid (∀ w', Ext wr w' → w'.cell? ⟨gb, 1, none⟩ = some (.slice Bo j l)) := fun w' e => (H.out.1.step e).c1
            clear x0 xl
            go_region_law (first
              | (go_simp; go_at_call 24; (with_reducible refine (HCL.out _).mono ?_); rintro e1 w4 ⟨rfl, hx4⟩; have q0 : w4.cell? ⟨gb, 1, none⟩ = some (.slice Bo j l) := HS0.out _ (by (with_reducible (repeat (first | exact Ext.refl _ | assumption | (refine Ext.toSet ?_ (by omega)) | refine Ext.toAlloc ?_ | refine Ext.toDrew ?_ | refine Ext.toDrewN ?_ | refine Ext.trans ?_ (by assumption)))); (first | done | fail "no")); have ql : gb < w4.heap.size := World.block_lt_of_cell? w4 _ q0)
              | (refine appI_step (by rfl) (.tmp 54) (.tmp 61) (by rfl) wb.heap.size Bo l (ftI G m E) j (by rfl) (H.out.2.2.1.ext (by (with_reducible (repeat (first | exact Ext.refl _ | assumption | (refine Ext.toSet ?_ (by omega)) | refine Ext.toAlloc ?_ | refine Ext.toDrew ?_ | refine Ext.toDrewN ?_ | refine Ext.trans ?_ (by assumption)))); (first | done | fail "no"))) ⟨w4.heap.size, 0, none⟩ 1 (by rfl) (by rw [HU.out]; go_simp) (by omega) (by have := (show Ext wr w4 from (by (with_reducible (repeat (first | exact Ext.refl _ | assumption | (refine Ext.toSet ?_ (by omega)) | refine Ext.toAlloc ?_ | refine Ext.toDrew ?_ | refine Ext.toDrewN ?_ | refine Ext.trans ?_ (by assumption)))); (first | done | fail "no"))).size; have := H.out.2.2.2; simp; omega) ?_; intro g9 cap w9 hown hgrow hat hltg; have ST := Lib.hid ((H.out.1.step (show Ext wr (w4.alloc _) from (by (with_reducible (repeat (first | exact Ext.refl _ | assumption | (refine Ext.toSet ?_ (by omega)) | refine Ext.toAlloc ?_ | refine Ext.toDrew ?_ | refine Ext.toDrewN ?_ | refine Ext.trans ?_ (by assumption)))); (first | done | fail "no")))).grown (base := wb.heap.size) hgrow HGL.out (fun r hr => (H.out.2.2.1.lt r hr).1)); have STA := Lib.hid ((H.out.2.1.ext (show Ext wr (w4.alloc _) from (by (with_reducible (repeat (first | exact Ext.refl _ | assumption | (refine Ext.toSet ?_ (by omega)) | refine Ext.toAlloc ?_ | refine Ext.toDrew ?_ | refine Ext.toDrewN ?_ | refine Ext.trans ?_ (by assumption)))); (first | done | fail "no")))).grown (base := wb.heap.size) hgrow HAL.out (fun r hr => (H.out.2.2.1.lt r hr).1)); have OWN := Lib.hid hown; have SZ : Hid (wb.heap.size ≤ w9.heap.size) := Nat.le_trans (Nat.le_trans H.out.2.2.2 (show Ext wr (w4.alloc _) from (by (with_reducible (repeat (first | exact Ext.refl _ | assumption | (refine Ext.toSet ?_ (by omega)) | refine Ext.toAlloc ?_ | refine Ext.toDrew ?_ | refine Ext.toDrewN ?_ | refine Ext.trans ?_ (by assumption)))); (first | done | fail "no"))).size) hgrow.size; have f1 := ST.out.c1; have f2 := ST.out.box.frozen 1; clear hown hgrow hat hltg))
            all_goals
              go_wp2_with fail
              (try rw [← HPP.out])
              (first | exact ⟨⟨_, _, _, _, ⟨j + 1, (by omega), (by go_num), some ⟨g9, 0, none⟩, cap, ST.out.put1 _, STA.out.setOther (a := ⟨gb, 1, none⟩) HAN.out _, OWN.out.off HGL.out 1 _, (by simpa using SZ.out)⟩, rfl, rfl, rfl, rfl⟩, by simp [intOf]; omega⟩ | exact ⟨⟨_, _, _, ⟨j + 1, (by omega), (by go_num), some ⟨g9, 0, none⟩, cap, ST.out.put1 _, STA.out.setOther (a := ⟨gb, 1, none⟩) HAN.out _, OWN.out.off HGL.out 1 _, (by simpa using SZ.out)⟩, rfl, rfl, rfl⟩, by simp [intOf]; omega⟩ | exact ⟨⟨_, _, _, _, _, ⟨j + 1, (by omega), (by go_num), some ⟨g9, 0, none⟩, cap, ST.out.put1 _, STA.out.setOther (a := ⟨gb, 1, none⟩) HAN.out _, OWN.out.off HGL.out 1 _, (by simpa using SZ.out)⟩, rfl, rfl, rfl, rfl, rfl⟩, by simp [intOf]; omega⟩)
        · obtain rfl : j = G.np := by omega
          have hr := HRE.out.ext H.out.1.ext
          have f0 := hr.frozen
          have r0 : wr.cell? ⟨w.heap.size + 1 + 1, 0, none⟩ = some (.slice none 0 0) := hr.cell (by omega)
          have r1 : wr.cell? ⟨w.heap.size + 1 + 1, 1, none⟩ = some (.slice none 0 0) := hr.cell (by omega)
          have HQQ := Lib.hid (ret_box2 hr (.slice Ao G.nc k) (.slice Bo G.np l))
          have p0 := H.out.1.c0
          have p1 := H.out.1.c1
          have HL : Hid (w.heap.size ≤ w.heap.size + 1 + 1) := by show _ ≤ _; omega
          have HX := Lib.hid (HE.out.trans H.out.1.ext)
          have HN1 : Hid (0 < G.nc → ∀ b o, Ao = some ⟨b, o, none⟩ → b ≠ w.heap.size + 1 + 1) := fun _ b o e => by have h1 := (HFB.out.2.blk b o e).1; have h2 := HZ.out; omega
          have HN2 : Hid (0 < G.np → ∀ b o, Bo = some ⟨b, o, none⟩ → b ≠ w.heap.size + 1 + 1) := fun _ b o e => by have h1 := (H.out.2.2.1.blk b o e).1; have h2 := HZ.out; have h3 := HGL.out; omega
          have R1 := Lib.hid ((H.out.2.1.setOther (a := ⟨w.heap.size + 1 + 1, 0, none⟩) HN1.out (.slice Ao G.nc k)).setOther (a := ⟨w.heap.size + 1 + 1, 1, none⟩) HN1.out (.slice Bo G.np l))
          have R2 := Lib.hid ((H.out.2.2.1.ri.setOther (a := ⟨w.heap.size + 1 + 1, 0, none⟩) HN2.out (.slice Ao G.nc k)).setOther (a := ⟨w.heap.size + 1 + 1, 1, none⟩) HN2.out (.slice Bo G.np l))
          clear hr
          go_wp2_with fail
          exact bodyPost_ret (v := .agg #[.slice Ao G.nc k, .slice Bo G.np l]) (by simp [results, Try.results22, go_sem, HQQ.out.1, HQQ.out.2]) rfl ⟨Ao, k, Bo, l, rfl, R1.out, R2.out, HNZ.out, (HX.out.toSet HL.out).toSet HL.out⟩
end Go.Proofs.Ytommlhdiefoocaa
