/- Package scales: the reference's Uniform. -/
import Derived.Test.YtgnngldlgcdnfaaGreatDoorSco
namespace Go.Proofs.YtgnngldlgcdnfaaGreatDoor
open Go Go.RowKit
attribute [local go_sem ↓] Go.wp_at_zero Go.wp_at_succ

def UrW (B : Nat) (w : World) (A : Option Addr) (n k : Nat) (v : Int) (F : Nat → Int) : Prop :=
  0 < n → ∃ g N f, A = some ⟨g, 0, none⟩ ∧ B ≤ g ∧ n ≤ N ∧ w.rowIs g 3 N f ∧ ∀ i, i < n → f i = I (if i < k then v else F i)
theorem UrW.put {B : Nat} {w : World} {g N n k : Nat} {v : Int} {F : Nat → Int} {f : Nat → Value} (hB : B ≤ g) (hN : n ≤ N) (r : w.rowIs g 3 N f) (hf : ∀ i, i < n → f i = I (if i < k then v else F i)) :
    UrW B (w.setCell ⟨g, k, none⟩ (I v)) (some ⟨g, 0, none⟩) n (k + 1) v F := fun _ =>
  ⟨g, N, _, rfl, hB, hN, r.set k (I v), fun i hi => by
    by_cases e : i = k
    · subst e; rw [if_pos rfl, if_pos (by omega)]
    · rw [if_neg e, hf i hi]
      by_cases q : i < k
      · rw [if_pos q, if_pos (by omega)]
      · rw [if_neg q, if_neg (by omega)]⟩
theorem UrW.fin {B : Nat} {w : World} {A : Option Addr} {n : Nat} {v : Int} {F : Nat → Int} (h : UrW B w A n n v F) : Ri w A n (fun _ => v) := fun h0 => by
  obtain ⟨g, N, f, hA, _, hN, r, hf⟩ := h h0
  exact ⟨g, 0, hA, r.lt, fun i hi => by rw [Nat.zero_add, r.cell (by omega), hf i hi, if_pos hi]⟩
def RuP (D : Dia) (n : Nat) (b : Nat → Bool) (S : Nat → IV) (w : World) (e : Ending) (w' : World) : Prop :=
  (chE D.nb n b S ≠ 0 ∧ e = .returned (.tuple #[.slice none 0 0, I (chE D.nb n b S)]) ∧ Ext w w') ∨
  (chE D.nb n b S = 0 ∧ ∃ A c, e = .returned (.tuple #[.slice A n c, I 0]) ∧ Ri w' A n (fun _ => leS S n) ∧ Ext w w')
set_option maxRecDepth 100000 in
set_option maxHeartbeats 4000000 in
theorem rUniform_any {w : World} {D : Dia} {p : Pl} {A : Option Addr} {n c : Nat} {R : Nat → RI} {S : Nat → IV} {b : Nat → Bool} (d : Dm w D p) (hn : n ≤ 1000000) (rs : RnI w A n R) (el : ∀ k, k < n → ElR w (R k) (S k) (b k))
    (hls : ∀ k, k < n → b k = true → len (mgD (S k)).m ≤ 140) :
    Calls Tryz.prog 46 #[dgv D p, .slice A n c] w (RuP D n b S w) := by
  obtain ⟨W1, hW1⟩ : ∃ W1, W1 = w.alloc (.cells #[.slice p.AI D.ni p.cI, .slice p.AB D.nb p.cB, .slice p.AO D.no p.cO] 26) := ⟨_, rfl⟩
  have hE : Ext w W1 := by rw [hW1]; exact Ext.alloc _ _
  have hbd : Bd W1 w.heap.size D p := by rw [hW1]; exact Bd.new _ _ _ _
  have HC : Hid (∀ w', Ext W1 w' → Calls Tryz.prog 45 #[dgv D p, .slice A n c] w' (RcP D n b S w')) := fun w' e => rChoose_any (d.ext (hE.trans e)) hn (rs.ext (hE.trans e)) (fun k hk => (el k hk).ext (hE.trans e)) hls
  have HE := Lib.hid hE
  obtain ⟨c0, c1, c2⟩ := hbd
  clear d rs el hE hls
  by_cases hz : chE D.nb n b S = 0
  case neg =>
    have HC2 : Hid (∀ w', Ext W1 w' → Calls Tryz.prog 45 #[dgv D p, .slice A n c] w' fun e w'' => e = .returned (.tuple #[.slice none 0 0, I (chE D.nb n b S)]) ∧ Ext w' w'') := fun w' x => (HC.out w' x).mono fun e w'' hh => by
      rcases hh with ⟨_, h2⟩ | ⟨h1, _⟩
      · exact h2
      · exact absurd h1 hz
    have HR : Hid (∀ (e : Ending) (w' : World), e = .returned (.tuple #[.slice none 0 0, I (chE D.nb n b S)]) → Ext w w' → RuP D n b S w e w') := fun e w' h x => .inl ⟨hz, h, x⟩
    have hz1 : (chE D.nb n b S != 0) = true := by simpa using hz
    clear hz HC
    generalize chE D.nb n b S = k at *
    go_enter Tryz.func46, Tryz.ntmps46
    go_upto_region 1 with fail
    rw [← hW1]; clear hW1
    go_wp2_with (go_at_call 45; (with_reducible refine (HC2.out _ (Ext.refl _)).mono ?_); rintro e1 w1 ⟨rfl, h1⟩)
    go_ret2
    exact HR.out _ _ rfl (HE.out.trans h1)
  case pos =>
    have HC2 : Hid (∀ w', Ext W1 w' → Calls Tryz.prog 45 #[dgv D p, .slice A n c] w' fun e w'' => ∃ A c g, e = .returned (.tuple #[.slice A n c, I 0]) ∧ w'.heap.size ≤ g ∧ OwI w'' g A c (chF S) n ∧ Ext w' w'') := fun w' x => (HC.out w' x).mono fun e w'' hh => by
      rcases hh with ⟨h1, _⟩ | ⟨_, h2⟩
      · exact absurd hz h1
      · exact h2
    have HR : Hid (∀ (e : Ending) (w' : World) A' c', e = .returned (.tuple #[.slice A' n c', I 0]) → Ri w' A' n (fun _ => leS S n) → Ext w w' → RuP D n b S w e w') := fun e w' A' c' h r x => .inr ⟨hz, A', c', h, r, x⟩
    clear hz HC
    go_enter Tryz.func46, Tryz.ntmps46
    go_upto_region 1 with fail
    rw [← hW1]; clear hW1
    go_upto_region 4 with (go_at_call 45; (with_reducible refine (HC2.out _ (Ext.refl _)).mono ?_); rintro e1 w1 ⟨A5, c5, g5, rfl, hg, ho, h1⟩; have HG5 := Lib.hid hg; have HO := Lib.hid ho; clear ho hg)
    have HX1 := Lib.hid h1
    clear c0 c1 c2 h1
    go_wp2_with fail
    clear HC2
    go_loopw [8, 23] (fun s8 s wr => ∃ (j : Nat) (v : Int), j ≤ n ∧ s = I j ∧ s8 = I v ∧ Hid (leS S j = v) ∧ Hid (Ext w1 wr)) (fun _ s _ => n - (intOf s).toNat)
    case atStart => exact ⟨0, 30, Nat.zero_le _, rfl, rfl, rfl, Ext.refl _⟩
    case round =>
      obtain ⟨j, v, hj, rfl, rfl, HV, H⟩ := hrel
      by_cases hlt : j < n
      · obtain ⟨bb, oo, hA, hbb, hcb⟩ := (HO.out.ri.ext H.out) (by omega)
        have x := hcb j hlt
        have hlt' : (j : Int) < (n : Int) := by omega
        have HV2 : Hid (leS S (j + 1) = min v (chF S j)) := by show _ = _; rw [← HV.out]; rfl
        have HAX := Lib.hid hA
        obtain ⟨u, hu⟩ : ∃ u, chF S j = u := ⟨_, rfl⟩
        rw [hu] at x HV2
        clear hcb hu
        rw [hA]
        clear hA
        go_wp2_with fail
        (try rw [← HAX.out])
        go_roundw
        case rel => exact ⟨j + 1, min v u, by omega, by go_num, rfl, HV2, H⟩
        case measure => simp [intOf]; omega
      · obtain rfl : j = n := by omega
        have HU0 : Hid (UrW W1.heap.size wr A5 j 0 v (chF S)) := fun h0 => by
          obtain ⟨g, N, f, hA, hB, hN, r, hf⟩ := (HO.out.ext H.out).row h0
          exact ⟨g, N, f, hA, Nat.le_trans HG5.out hB, hN, r, fun i hi => by rw [hf i hi, if_neg (by omega)]⟩
        have HX0 := Lib.hid (HX1.out.trans H.out)
        clear HO HG5 H
        go_wp2_with fail
        go_loopw [33] (fun s wq => ∃ (k : Nat), k ≤ j ∧ s = I k ∧ Hid (UrW W1.heap.size wq A5 j k v (chF S)) ∧ Hid (Ext W1 wq)) (fun s _ => j - (intOf s).toNat)
        case atStart => exact ⟨0, Nat.zero_le _, rfl, HU0, HX0⟩
        case round =>
          clear HU0 HX0
          obtain ⟨k, hk, rfl, HU, HX⟩ := hrel
          by_cases hlt : k < j
          · obtain ⟨g, N, f, hA, hB, hN, r, hf⟩ := HU.out (by omega)
            have hcell := r.cell (i := k) (by omega)
            have hfz := r.frozen k
            have hlt' : (k : Int) < (j : Int) := by omega
            have HAX := Lib.hid hA
            have HP := Lib.hid (UrW.put hB hN r hf)
            have HX2 : Hid (Ext W1 (wr.setCell ⟨g, k, none⟩ (I v))) := HX.out.set hB _
            clear r hf
            generalize f k = y at *
            rw [hA]
            clear hA
            go_wp2_with fail
            (try rw [← HAX.out])
            go_roundw
            case rel => exact ⟨k + 1, by omega, by go_num, by rw [HAX.out]; exact HP, HX2⟩
            case measure => simp [intOf]; omega
          · obtain rfl : k = j := by omega
            have HF := Lib.hid HU.out.fin
            go_wp2_with fail
            go_ret2
            exact HR.out _ _ _ _ rfl (by rw [HV.out]; exact HF.out) (HE.out.trans HX.out)
end Go.Proofs.YtgnngldlgcdnfaaGreatDoor
