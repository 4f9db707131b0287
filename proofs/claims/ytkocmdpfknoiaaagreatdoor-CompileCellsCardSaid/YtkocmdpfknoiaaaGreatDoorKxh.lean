/- Programs of diagrams: the initial cells, by the code. -/
import Derived.Test.YtkocmdpfknoiaaaGreatDoorKxg
namespace Go.Proofs.YtkocmdpfknoiaaaGreatDoor
open Go Go.RowKit

theorem own_of_row {w : World} {g N : Nat} {base : Nat} {F : Nat → Int} (h : w.rowIs g 3 N (fun i => I (F i))) (hb : base ≤ g) (hN : N ≤ maxLen) : OwI w base (some ⟨g, 0, none⟩) N F N := by
  obtain ⟨c, h1, h2, h3⟩ := h
  refine ⟨by rw [ivs_len, Nat.mul_one], .inr ⟨g, N, c, rfl, hb, h1, Nat.le_refl _, hN, by omega, ?_⟩⟩
  refine List.ext_getElem? fun i => ?_
  by_cases hi : i < N
  · rw [List.getElem?_take_of_lt (by omega), ivs_get hi, Array.getElem?_toList]; exact h3 i hi
  · rw [List.getElem?_eq_none (by simp; omega), List.getElem?_eq_none (by rw [ivs_len]; omega)]
theorem OwI.len0 {w : World} {base c n : Nat} {A : Option Addr} {F : Nat → Int} (h : OwI w base A c F n) : A = none → c = 0 := fun hA => by
  obtain ⟨_, ⟨e, _⟩ | ⟨g, cap, cur, e, _⟩⟩ := h
  · injection e
  · injection e with e1 e2 e3; rw [hA] at e1; cases e1
theorem OwI.mono {w : World} {base base' c n : Nat} {A : Option Addr} {F : Nat → Int} (h : OwI w base A c F n) (hb : base' ≤ base) : OwI w base' A c F n := by
  obtain ⟨hl, h⟩ := h
  refine ⟨hl, ?_⟩
  rcases h with h | ⟨g, cap, cur, h1, h2, h3⟩
  · exact .inl h
  · exact .inr ⟨g, cap, cur, h1, by omega, h3⟩
theorem mk_cnt {P : Nat → Bool} {n k : Nat} (hk : k < (mkL n P).length) : cnt ((mkL n P).getD k 0) P = k := by
  obtain ⟨h1, h2⟩ := mk_at hk
  obtain ⟨h3, h4⟩ := mkL_at h1 h2
  have hp := mkL_sorted n P
  have gd : ∀ j (h : j < (mkL n P).length), (mkL n P).getD j 0 = (mkL n P)[j] := fun j h => by simp [List.getD, List.getElem?_eq_getElem h]
  have e1 := gd k hk
  have e2 := gd _ h4
  rw [h3] at e2
  rcases Nat.lt_trichotomy (cnt ((mkL n P).getD k 0) P) k with h | h | h
  · have := List.pairwise_iff_getElem.1 hp _ _ h4 hk h; omega
  · exact h
  · have := List.pairwise_iff_getElem.1 hp _ _ hk h4 h; omega
/-- The cells while the first k delays are laid. -/
def cz (D : Dia) (F : Nat → Int) (k i : Nat) : Int := if i < D.nb ∧ isD D i = true ∧ cnt i (isD D) < k then rwV (D.B i) (F i) 0 else 0
theorem cz_0 (D : Dia) (F : Nat → Int) (i : Nat) : cz D F 0 i = 0 := by unfold cz; rw [if_neg (by omega)]
theorem cz_s {D : Dia} {F : Nat → Int} {k : Nat} (hk : k < ndl D) (i : Nat) : (if i = dlA D k then rwV (D.B (dlA D k)) (F (dlA D k)) 0 else cz D F k i) = cz D F (k + 1) i := by
  obtain ⟨h1, h2⟩ := dl_lt D hk
  have h3 : cnt (dlA D k) (isD D) = k := mk_cnt hk
  by_cases e : i = dlA D k
  · subst e; rw [if_pos rfl]; unfold cz; rw [if_pos ⟨h1, h2, by omega⟩]
  · rw [if_neg e]; unfold cz
    by_cases q : i < D.nb ∧ isD D i = true
    · have h4 : dlA D (cnt i (isD D)) = i := (mkL_at q.1 q.2).1
      have : cnt i (isD D) ≠ k := fun hh => e (by rw [← h4, hh])
      by_cases r : cnt i (isD D) < k
      · rw [if_pos ⟨q.1, q.2, r⟩, if_pos ⟨q.1, q.2, by omega⟩]
      · rw [if_neg (by omega), if_neg (by omega)]
    · rw [if_neg fun hh => q ⟨hh.1, hh.2.1⟩, if_neg fun hh => q ⟨hh.1, hh.2.1⟩]
theorem cz_e {D : Dia} {F : Nat → Int} {i : Nat} (hi : i < D.nb + ndl D) : cz D F (ndl D) i = ceX D F i := by
  unfold cz ceX
  by_cases h : i < D.nb
  · rw [if_pos h]
    by_cases q : isD D i = true
    · rw [if_pos ⟨h, q, (mkL_at h q).2⟩, if_pos q]
    · rw [if_neg fun hh => q hh.2.1, if_neg q]
  · rw [if_neg fun hh => h hh.1, if_neg h, if_pos hi]
theorem ceX_b (D : Dia) (F : Nat → Int) (k j : Nat) (hj : j < 2) : ceX D F (D.nb + ndl D + 2 * k + j) = rwV (D.B (clA D k)) (F (clA D k)) j := by
  unfold ceX
  rw [if_neg (by omega), if_neg (by omega), show (D.nb + ndl D + 2 * k + j - D.nb - ndl D) / 2 = k by omega, show (D.nb + ndl D + 2 * k + j - D.nb - ndl D) % 2 = j by omega]
theorem ce_jn {D : Dia} {F : Nat → Int} {N k : Nat} (hN : N = D.nb + ndl D) : ∀ i, i < N + 2 * k + 2 → jnF (ceX D F) (N + 2 * k) (rwV (D.B (clA D k)) (F (clA D k))) i = ceX D F i := fun i hi => by
  unfold jnF
  split
  · rfl
  · rename_i h
    have := ceX_b D F k (i - (N + 2 * k)) (by omega)
    rw [← this]; congr 1; omega
def CeR (D : Dia) (F : Nat → Int) (w : World) (e : Ending) (w' : World) : Prop := ∃ A c, e = .returned (.slice A (D.nb + ndl D + 2 * ncl D) c) ∧ OwI w' w.heap.size A c (ceX D F) (D.nb + ndl D + 2 * ncl D) ∧ Ext w w'
theorem kp_d {D : Dia} {i : Nat} (h : isD D i = true) : kpN (D.B i).k = 1 := by
  have : (D.B i).k = 2 := by simpa [isD] using h
  rw [this]; rfl
theorem kp_c {D : Dia} {i : Nat} (h : isC D i = true) : kpN (D.B i).k = 2 := by
  have : (D.B i).k = 11 := by simpa [isC] using h
  rw [this]; rfl
set_option maxRecDepth 100000 in
set_option maxHeartbeats 2000000 in
theorem cells_any {w : World} {D : Dia} {F : Nat → Int} {p : Pl} {q : So} (m : SoM w D F p q) (hnb : D.nb ≤ 64) : Calls Tryz.prog 37 #[sov D p q] w (CeR D F w) := by
  obtain ⟨W1, hW1⟩ : ∃ W1, W1 = w.alloc (.cells #[.slice p.AI D.ni p.cI, .slice p.AB D.nb p.cB, .slice p.AO D.no p.cO, .slice q.Ao q.lo q.co, .slice q.Ad q.ld q.cd, .slice q.Ac q.lc q.cc, .slice q.Af D.nb q.cf, .slice q.Ar D.nb q.cr] 85) := ⟨_, rfl⟩
  have HS : Hid (Sb W1 w.heap.size D p q) := by rw [hW1]; exact Sb.new w D p q
  have HE : Hid (Ext w W1) := by rw [hW1]; exact Ext.alloc _ _
  have hz1 : W1.heap.size = w.heap.size + 1 := by rw [hW1]; simp
  have HM := Lib.hid m
  have hnd := ndc_le D
  have hld : q.ld ≤ 64 := by rw [m.dl]; omega
  have hlc : q.lc ≤ 64 := by rw [m.cl]; omega
  obtain ⟨N, hN⟩ : ∃ N : Nat, N = D.nb + q.ld := ⟨_, rfl⟩
  have HND := Lib.hid (show N = D.nb + ndl D by rw [hN, m.dl])
  have hN2 : N ≤ 128 := by omega
  have hw : IntKind.i64.wrap ((D.nb : Int) + (q.ld : Int)) = (N : Int) := by rw [IntWalk.i64_in _ (by omega)]; omega
  have hmk := run_make_row' 24 3 (I 0) 8 Tryz.underlying24 infoI rfl .i64 .i64 N (by omega) (by omega)
  have HDL := Lib.hid m.dl
  have HCL := Lib.hid m.cl
  have HDEL : Hid (∀ k, k < q.ld → dlA D k < D.nb ∧ isD D (dlA D k) = true) := fun k hk => dl_lt D (by rw [← m.dl]; exact hk)
  have HCLP : Hid (∀ k, k < q.lc → clA D k < D.nb ∧ isC D (clA D k) = true) := fun k hk => cl_lt D (by rw [← m.cl]; exact hk)
  clear m hN
  obtain ⟨c0, c1, c2, c3, c4, c5, c6, c7⟩ := HS.out
  go_enter Tryz.func37, Tryz.ntmps37
  go_upto_region 1 with fail
  rw [← hW1]; clear hW1
  go_wp2_with fail
  clear c0 c1 c2 c3 c4 c5 c6 c7 hmk
  have HR0 := Lib.hid (World.rowIs_made W1 (I 0) N 3)
  rw [hz1] at HR0
  go_loopw [20] (fun s wr => ∃ (k : Nat), k ≤ q.ld ∧ s = I k ∧ Hid (wr.rowIs (w.heap.size + 1) 3 N (fun i => I (cz D F k i)) ∧ Ext W1 wr)) (fun s _ => q.ld - (intOf s).toNat)
  case atStart => exact ⟨0, Nat.zero_le _, rfl, HR0.out.congr fun i hi => by rw [cz_0], Ext.alloc _ _⟩
  case round =>
    obtain ⟨k, hk, rfl, H⟩ := hrel
    by_cases hlt : k < q.ld
    · have hlt' : (k : Int) < (q.ld : Int) := by omega
      obtain ⟨bo, oo, ho, hbo, hco⟩ := (HM.out.del.ext (HE.out.trans H.out.2)) (by omega)
      have yo : wr.cell? ⟨bo, oo + k, none⟩ = some (I ((dlA D k : Nat) : Int)) := hco k hlt
      obtain ⟨hin, hid⟩ := HDEL.out k hlt
      obtain ⟨br, orr, hr, hrl, hrc⟩ := (HM.out.rw.ext (HE.out.trans H.out.2)) (by omega)
      obtain ⟨Ai, ci, k1, k2, k3⟩ := hrc _ hin
      rw [kp_d hid] at k1 k2
      obtain ⟨bi, oi, hAi, hil, hic⟩ := k2 (by omega)
      have k4 := hic 0 (by omega)
      rw [Nat.add_zero] at k4
      rw [hAi] at k1
      have HN : Hid (∀ i, (if i = dlA D k then rwV (D.B (dlA D k)) (F (dlA D k)) 0 else cz D F k i) = cz D F (k + 1) i) := cz_s (by rw [← HDL.out]; exact hlt)
      obtain ⟨i, hi⟩ : ∃ i, dlA D k = i := ⟨_, rfl⟩
      rw [hi] at yo hin k1 k4 HN
      generalize rwV (D.B i) (F i) 0 = rv at *
      obtain ⟨c0, c1, c2, c3, c4, c5, c6, c7⟩ := HS.out.ext H.out.2
      rw [hr] at c7
      have HO := Lib.hid ho
      have hin' : (i : Int) < (D.nb : Int) := by omega
      have hiN : i < N := by have := HND.out; omega
      have hiN' : (i : Int) < (N : Int) := by omega
      have y1 := H.out.1.cell hiN
      have y2 := H.out.1.frozen i
      clear hco hrc k2 k3 hic hid hi hAi
      go_wp2_with fail
      (try rw [← HO.out])
      go_roundw
      case rel => exact ⟨k + 1, by omega, by go_num, (H.out.1.set i (I rv)).congr (fun j hj => by rw [← HN.out j]; by_cases e : j = i <;> simp [e]), H.out.2.toSet (by omega)⟩
      case measure => simp [intOf]; omega
    · obtain rfl : k = q.ld := by omega
      have HW0 : Hid (OwI wr W1.heap.size (some ⟨w.heap.size + 1, 0, none⟩) N (ceX D F) N ∧ Ext W1 wr) :=
        ⟨(own_of_row H.out.1 (by omega) (by unfold maxLen; omega)).congr fun i hi => by rw [HDL.out]; exact cz_e (by rw [← HND.out]; exact hi), H.out.2⟩
      clear H hk hlt
      obtain ⟨Wm, hWm⟩ : ∃ Wm, Wm = wr := ⟨_, rfl⟩
      rw [← hWm] at HW0 ⊢
      clear hWm
      obtain ⟨c0, c1, c2, c3, c4, c5, c6, c7⟩ := HS.out.ext HW0.out.2
      go_wp2_with fail
      clear c0 c1 c2 c3 c4 c5 c6 c7
      go_loopw [3, 38] (fun s3 s wr => ∃ (k : Nat) (A : Option Addr) (c : Nat), k ≤ q.lc ∧ s = I k ∧ s3 = .slice A (N + 2 * k) c ∧ Hid (OwI wr W1.heap.size A c (ceX D F) (N + 2 * k) ∧ Ext W1 wr)) (fun _ s _ => q.lc - (intOf s).toNat)
      case atStart => exact ⟨0, _, _, Nat.zero_le _, rfl, rfl, HW0.out⟩
      case round =>
        obtain ⟨k, A, c, hk, rfl, rfl, H⟩ := hrel
        by_cases hlt : k < q.lc
        · have hlt' : (k : Int) < (q.lc : Int) := by omega
          obtain ⟨bo, oo, ho, hbo, hco⟩ := (HM.out.clp.ext (HE.out.trans H.out.2)) (by omega)
          have yo : wr.cell? ⟨bo, oo + k, none⟩ = some (I ((clA D k : Nat) : Int)) := hco k hlt
          obtain ⟨hin, hid⟩ := HCLP.out k hlt
          obtain ⟨br, orr, hr, hrl, hrc⟩ := (HM.out.rw.ext (HE.out.trans H.out.2)) (by omega)
          obtain ⟨Ai, ci, k1, k2, k3⟩ := hrc _ hin
          rw [kp_c hid] at k1 k2
          have HK2 := Lib.hid k2
          have HJ : Hid (∀ i, i < N + 2 * k + 2 → jnF (ceX D F) (N + 2 * k) (rwV (D.B (clA D k)) (F (clA D k))) i = ceX D F i) := ce_jn HND.out
          obtain ⟨i, hi⟩ : ∃ i, clA D k = i := ⟨_, rfl⟩
          rw [hi] at yo hin k1 HJ HK2
          obtain ⟨c0, c1, c2, c3, c4, c5, c6, c7⟩ := HS.out.ext H.out.2
          rw [hr] at c7
          have HO := Lib.hid ho
          have hin' : (i : Int) < (D.nb : Int) := by omega
          have hsz := H.out.2.size
          clear hco hrc k2 k3 hid hi
          go_wp2_with (at_builtin; refine appIs rfl _ _ rfl W1.heap.size A c (ceX D F) (N + 2 * k) rfl H.out.1 _ 2 _ (rwV (D.B i) (F i)) rfl HK2.out (by omega) (by omega) (by omega) ?_; intro g cap w2 hown hgrow hat hlt; have G := Lib.hid (growI_ext H.out.2 H.out.1 (Nat.le_refl _) hgrow); have O2 := Lib.hid (hown.congr HJ.out); clear hown hgrow hat)
          (try rw [← HO.out])
          go_roundw
          case rel => exact ⟨k + 1, some ⟨g, 0, none⟩, cap, by omega, by go_num, by rw [show N + 2 * (k + 1) = N + 2 * k + 2 by omega], by rw [show N + 2 * (k + 1) = N + 2 * k + 2 by omega]; exact ⟨O2.out, G.out⟩⟩
          case measure => simp [intOf]; omega
        · obtain rfl : k = q.lc := by omega
          have HV : Hid (N + 2 * q.lc = D.nb + ndl D + 2 * ncl D) := by show _ = _; rw [HND.out, HCL.out]
          go_wp2_with fail
          go_ret
          exact ⟨A, c, by rw [← HV.out]; rfl, by rw [← HV.out]; exact H.out.1.mono (by omega), HE.out.trans H.out.2⟩
end Go.Proofs.YtkocmdpfknoiaaaGreatDoor
