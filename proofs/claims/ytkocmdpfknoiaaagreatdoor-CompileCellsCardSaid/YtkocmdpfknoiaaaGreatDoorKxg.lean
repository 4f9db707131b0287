/- Programs of diagrams: the code, by the code. -/
import Derived.Test.YtkocmdpfknoiaaaGreatDoorKxf
namespace Go.Proofs.YtkocmdpfknoiaaaGreatDoor
open Go Go.RowKit

theorem ord_lt (D : Dia) {j : Nat} (hj : j < (ordL D).length) : (ordL D).getD j 0 < D.nb ∧ isD D ((ordL D).getD j 0) = false := by
  refine (ord_end D).1.lt _ ?_
  have e : (ordL D).getD j 0 = (ordL D)[j] := by simp [List.getD, List.getElem?_eq_getElem hj]
  rw [e]; unfold inL; simp
theorem mk_at {P : Nat → Bool} {n k : Nat} (hk : k < (mkL n P).length) : (mkL n P).getD k 0 < n ∧ P ((mkL n P).getD k 0) = true := by
  have e : (mkL n P).getD k 0 = (mkL n P)[k] := by simp [List.getD, List.getElem?_eq_getElem hk]
  rw [e]; exact mem_mkL.1 (List.getElem_mem hk)
theorem dl_lt (D : Dia) {k : Nat} (hk : k < ndl D) : dlA D k < D.nb ∧ isD D (dlA D k) = true := mk_at hk
theorem cl_lt (D : Dia) {k : Nat} (hk : k < ncl D) : clA D k < D.nb ∧ isC D (clA D k) = true := mk_at hk
theorem oxL_t {D : Dia} {F : Nat → Int} {j i : Nat} (hi : (ordL D).getD j 0 = i) (h : isC D i = true) : oxL D F (j + 1) = oxL D F j ++ [fiX D F i] ++ [clX D i] := by
  show oxL D F j ++ bkX D F ((ordL D).getD j 0) = _
  rw [hi]; unfold bkX; rw [if_pos h, List.append_assoc]; rfl
theorem oxL_f {D : Dia} {F : Nat → Int} {j i : Nat} (hi : (ordL D).getD j 0 = i) (h : isC D i = false) : oxL D F (j + 1) = oxL D F j ++ [fiX D F i] := by
  show oxL D F j ++ bkX D F ((ordL D).getD j 0) = _
  rw [hi]; unfold bkX; rw [if_neg (by rw [h]; decide)]
theorem bkX_len (D : Dia) (F : Nat → Int) (i : Nat) : (bkX D F i).length ≤ 2 := by unfold bkX; split <;> simp
theorem oxL_len (D : Dia) (F : Nat → Int) (j : Nat) : (oxL D F j).length ≤ 2 * j := by
  induction j with
  | zero => exact Nat.le_refl _
  | succ j ih => show (oxL D F j ++ bkX D F _).length ≤ _; rw [List.length_append]; have := bkX_len D F ((ordL D).getD j 0); omega
theorem m1L_s (D : Dia) (F : Nat → Int) (k : Nat) : m1L D F (k + 1) = m1L D F k ++ [m1X D F k] := rfl
theorem m2L_s (D : Dia) (k : Nat) : m2L D (k + 1) = m2L D k ++ [m2X D k] := rfl
theorem OwX.mono {w : World} {base base' c : Nat} {A : Option Addr} {L : List Ins} (h : OwX w base A c L) (hb : base' ≤ base) : OwX w base' A c L := by
  obtain ⟨hl, h⟩ := h
  refine ⟨hl, ?_⟩
  rcases h with h | ⟨g, cap, cur, h1, h2, h3⟩
  · exact .inl h
  · exact .inr ⟨g, cap, cur, h1, by omega, h3⟩
def CoR (D : Dia) (F : Nat → Int) (w : World) (e : Ending) (w' : World) : Prop := ∃ A c, e = .returned (.slice A (cdN D F) c) ∧ OwX w' w.heap.size A c (cdL D F) ∧ Ext w w'
theorem bi7_new (w : World) (x : Ins) : BI7 (w.alloc (.cells #[I x.op, I x.dst, I x.a, I x.b, I x.sa, I x.sb, I x.im] 83)) w.heap.size x := BI7.new w x _
set_option maxRecDepth 100000 in
set_option maxHeartbeats 2000000 in
theorem code_any {w : World} {D : Dia} {F : Nat → Int} {p : Pl} {q : So} (m : SoM w D F p q) (ok : OkD D) (hF : ∀ j, j < D.nb → 0 ≤ F j ∧ F j ≤ 30) (hT : TabO w) : Calls Tryz.prog 38 #[sov D p q] w (CoR D F w) := by
  obtain ⟨W1, hW1⟩ : ∃ W1, W1 = w.alloc (.cells #[.slice p.AI D.ni p.cI, .slice p.AB D.nb p.cB, .slice p.AO D.no p.cO, .slice q.Ao q.lo q.co, .slice q.Ad q.ld q.cd, .slice q.Ac q.lc q.cc, .slice q.Af D.nb q.cf, .slice q.Ar D.nb q.cr] 85) := ⟨_, rfl⟩
  have HS : Hid (Sb W1 w.heap.size D p q) := by rw [hW1]; exact Sb.new w D p q
  have HE : Hid (Ext w W1) := by rw [hW1]; exact Ext.alloc _ _
  have hz1 : W1.heap.size = w.heap.size + 1 := by rw [hW1]; simp
  have HM := Lib.hid m
  have hlo : q.lo ≤ 64 := by rw [m.ol]; have := ord_le D; have := ok.nb; omega
  have hld : q.ld ≤ 64 := by rw [m.dl]; have := ndc_le D; have := ok.nb; omega
  have hnb := ok.nb
  have HOL := Lib.hid m.ol
  have HDL := Lib.hid m.dl
  have HFI : Hid (∀ w' (i : Nat), Ext w w' → i < D.nb → Calls Tryz.prog 88 #[sov D p q, I i] w' (FiR D F i w')) := fun w' i x hi => first_any (m.ext x) ok hF i hi (hT.ext x)
  have HBN : Hid (∀ w' (i : Nat), Ext w w' → i < D.nb → isC D i = true → Calls Tryz.prog 89 #[sov D p q, I i] w' fun e w'' => e = .returned (I ((bnC D i : Nat) : Int)) ∧ Ext w' w'') := fun w' i x hi hc => bounds_any (m.ext x) hnb i hi hc
  have HNX : Hid (∀ w' (k : Nat), k < q.ld → Calls Tryz.prog 90 #[sov D p q, I k] w' fun e w'' => e = .returned (I ((D.nb : Int) + (k : Int))) ∧ Ext w' w'') := fun w' k hk => by
    have h := next_any (w := w') (D := D) (p := p) (q := q) k (by omega) (by omega)
    rwa [show ((D.nb + k : Nat) : Int) = (D.nb : Int) + (k : Int) by omega] at h
  have HBC : Hid (∀ i, i < D.nb → bnC D i ≤ 1000) := fun i hi => by
    have h1 := cnt_le i (isC D); have h2 := ndc_le D
    show D.nb + ndl D + 2 * cnt i (isC D) ≤ 1000
    omega
  have HORD : Hid (∀ j, j < q.lo → (ordL D).getD j 0 < D.nb) := fun j hj => (ord_lt D (by rw [← m.ol]; exact hj)).1
  have HDEL : Hid (∀ k, k < q.ld → dlA D k < D.nb) := fun k hk => (dl_lt D (by rw [← m.dl]; exact hk)).1
  clear m ok hF hT
  obtain ⟨c0, c1, c2, c3, c4, c5, c6, c7⟩ := HS.out
  go_enter Tryz.func38, Tryz.ntmps38
  go_upto_region 2 with fail
  rw [← hW1]; clear hW1
  go_wp2_with fail
  clear c0 c1 c2 c3 c4 c5 c6 c7
  go_loopw [3, 14] (fun s3 s wr => ∃ (j : Nat) (A : Option Addr) (c : Nat), j ≤ q.lo ∧ s = I j ∧ s3 = .slice A (oxL D F j).length c ∧ Hid (OwX wr W1.heap.size A c (oxL D F j) ∧ Ext W1 wr)) (fun _ s _ => q.lo - (intOf s).toNat)
  case atStart => exact ⟨0, none, 0, Nat.zero_le _, rfl, rfl, OwX.nil _ _, Ext.refl _⟩
  case round =>
    obtain ⟨j, A, c, hj, rfl, rfl, H⟩ := hrel
    by_cases hlt : j < q.lo
    · have hlt' : (j : Int) < (q.lo : Int) := by omega
      obtain ⟨bo, oo, ho, hbo, hco⟩ := (HM.out.ord.ext (HE.out.trans H.out.2)) (by omega)
      have yo : wr.cell? ⟨bo, oo + j, none⟩ = some (I (((ordL D).getD j 0 : Nat) : Int)) := hco j hlt
      obtain ⟨i, hi⟩ : ∃ i, (ordL D).getD j 0 = i := ⟨_, rfl⟩
      have hin := HORD.out j hlt
      have HI := Lib.hid hi
      rw [hi] at yo hin
      obtain ⟨c0, c1, c2, c3, c4, c5, c6, c7⟩ := HS.out.ext H.out.2
      have hsz := H.out.2.size
      have hlen := oxL_len D F j
      have HO := Lib.hid ho
      clear hco hi
      go_upto_region 5 with fail
      (try rw [← HO.out])
      clear ho yo hbo HO
      go_upto_region 6 with (first
        | (go_at_call 88; (with_reducible refine (HFI.out _ _ (HE.out.trans (H.out.2.trans (by (with_reducible (repeat (first | exact Ext.refl _ | assumption | (refine Ext.toSet ?_ (by omega)) | refine Ext.toAlloc ?_ | refine Ext.toDrew ?_ | refine Ext.toDrewN ?_ | refine Ext.trans ?_ (by assumption)))); (first | done | fail "no")))) hin).mono ?_); rintro e1 w2 ⟨rfl, h2⟩; have HX2 := Lib.hid (show Ext wr w2 from (by (with_reducible (repeat (first | exact Ext.refl _ | assumption | (refine Ext.toSet ?_ (by omega)) | refine Ext.toAlloc ?_ | refine Ext.toDrew ?_ | refine Ext.toDrewN ?_ | refine Ext.trans ?_ (by assumption)))); (first | done | fail "no"))); have hs2 := HX2.out.size; clear h2)
        | (at_builtin; refine appX rfl _ _ rfl W1.heap.size A c (oxL D F j) [fiX D F i] _ _ rfl rfl rfl (H.out.1.ext (HX2.out.trans (Ext.alloc _ _))) _ _ rfl (bi7_news (bi7_new _ _)) (by simp) (by simp; omega) (by simp; omega) ?_; intro g cap w3 hown hgrow hat hltg; have HN := Lib.hid hown; have HG := Lib.hid (growX_ext (H.out.2.trans (HX2.out.trans (Ext.alloc _ _))) (H.out.1.ext (HX2.out.trans (Ext.alloc _ _))) (Nat.le_refl _) hgrow); clear hown hgrow hat hltg))
      obtain ⟨bb, ob, hb, hbb, hcb⟩ := (HM.out.dm.ext (HE.out.trans HG.out)).blocks (by omega)
      have yk := (hcb i hin).1
      have HB := Lib.hid hb
      have hin' : (i : Int) < (D.nb : Int) := by omega
      have hsg := HG.out.size
      clear c0 c1 c2 c3 c4 c5 c6 c7 hcb
      obtain ⟨c0, c1, c2, c3, c4, c5, c6, c7⟩ := HS.out.ext HG.out
      cases hq : isC D i with
      | false =>
        have hk : ((D.B i).k == 11) = false := hq
        have HX := Lib.hid (oxL_f (F := F) HI.out hq)
        clear hq
        go_wp2_with fail
        (try rw [← HB.out])
        go_roundw
        case rel => exact ⟨j + 1, some ⟨g, 0, none⟩, cap, by omega, by go_num, by rw [HX.out]; simp, by rw [HX.out]; exact ⟨HN.out, HG.out⟩⟩
        case measure => simp [intOf]; omega
      | true =>
        have hk : (D.B i).k = 11 := by simpa [isC] using hq
        have HX := Lib.hid (oxL_t (F := F) HI.out hq)
        have HC := Lib.hid hq
        rw [hk] at yk
        have hbc := HBC.out i hin
        have hw : IntKind.i64.wrap (((bnC D i : Nat) : Int) + 1) = ((bnC D i : Nat) : Int) + 1 := IntWalk.i64_in _ (by omega)
        clear hq hk
        go_upto_region 7 with fail
        (try rw [← HB.out])
        clear hb yk hbb
        go_wp2_with (first
          | (go_at_call 89; (with_reducible refine (HBN.out _ _ (HE.out.trans (HG.out.trans (by (with_reducible (repeat (first | exact Ext.refl _ | assumption | (refine Ext.toSet ?_ (by omega)) | refine Ext.toAlloc ?_ | refine Ext.toDrew ?_ | refine Ext.toDrewN ?_ | refine Ext.trans ?_ (by assumption)))); (first | done | fail "no")))) hin HC.out).mono ?_); rintro e2 w4 ⟨rfl, h4⟩; have HX4 := Lib.hid (show Ext w3 w4 from (by (with_reducible (repeat (first | exact Ext.refl _ | assumption | (refine Ext.toSet ?_ (by omega)) | refine Ext.toAlloc ?_ | refine Ext.toDrew ?_ | refine Ext.toDrewN ?_ | refine Ext.trans ?_ (by assumption)))); (first | done | fail "no"))); have hs4 := HX4.out.size; clear h4)
          | (at_builtin; refine appX rfl _ _ rfl W1.heap.size (some ⟨g, 0, none⟩) cap (oxL D F j ++ [fiX D F i]) [clX D i] _ _ (by simp) rfl rfl (HN.out.ext (HX4.out.trans (Ext.alloc _ _))) _ _ rfl (bi7_news (bi7_new _ (clX D i))) (by simp) (by simp; omega) (by simp; omega) ?_; intro g2 cap2 w5 hown hgrow hat hltg; have HN2 := Lib.hid hown; have HG2 := Lib.hid (growX_ext (HG.out.trans (HX4.out.trans (Ext.alloc _ _))) (HN.out.ext (HX4.out.trans (Ext.alloc _ _))) (Nat.le_refl _) hgrow); clear hown hgrow hat hltg))
        go_roundw
        case rel => exact ⟨j + 1, some ⟨g2, 0, none⟩, cap2, by omega, by go_num, by rw [HX.out]; simp, by rw [HX.out]; exact ⟨HN2.out, HG2.out⟩⟩
        case measure => simp [intOf]; omega
    · obtain rfl : j = q.lo := by omega
      have hl1 := oxL_len D F q.lo
      have HO1 := H
      clear H hj hlt
      obtain ⟨Wm, hWm⟩ : ∃ Wm, Wm = wr := ⟨_, rfl⟩
      have HX0 : Hid (Ext W1 Wm) := by rw [hWm]; exact HO1.out.2
      have HO0 : Hid (OwX Wm W1.heap.size A c (oxL D F q.lo)) := by rw [hWm]; exact HO1.out.1
      rw [← hWm]; clear HO1 hWm
      obtain ⟨L0, hL0⟩ : ∃ L0, oxL D F q.lo = L0 := ⟨_, rfl⟩
      have HL0 := Lib.hid hL0
      rw [hL0] at hl1 HO0 ⊢
      clear hL0
      obtain ⟨c0, c1, c2, c3, c4, c5, c6, c7⟩ := HS.out.ext HX0.out
      go_wp2_with fail
      clear c0 c1 c2 c3 c4 c5 c6 c7
      have hszm := HX0.out.size
      go_loopw [3, 46] (fun s3 s wr => ∃ (k : Nat) (A : Option Addr) (c : Nat), k ≤ q.ld ∧ s = I k ∧ s3 = .slice A (L0 ++ m1L D F k).length c ∧ Hid (OwX wr W1.heap.size A c (L0 ++ m1L D F k) ∧ Ext W1 wr)) (fun _ s _ => q.ld - (intOf s).toNat)
      case atStart => exact ⟨0, A, c, Nat.zero_le _, rfl, by simp [m1L, fmL], by simpa [m1L, fmL] using HO0.out, HX0.out⟩
      case round =>
        obtain ⟨k, A, c, hk, rfl, rfl, H⟩ := hrel
        by_cases hlt : k < q.ld
        · have hlt' : (k : Int) < (q.ld : Int) := by omega
          obtain ⟨bo, oo, ho, hbo, hco⟩ := (HM.out.del.ext (HE.out.trans H.out.2)) (by omega)
          have yo : wr.cell? ⟨bo, oo + k, none⟩ = some (I ((dlA D k : Nat) : Int)) := hco k hlt
          have hin := HDEL.out k hlt
          obtain ⟨i, hi⟩ : ∃ i, dlA D k = i := ⟨_, rfl⟩
          have HM1 : Hid (m1L D F (k + 1) = m1L D F k ++ [{ fiX D F i with dst := ((D.nb : Int) + (k : Int)) }]) := by show _ = _; rw [m1L_s]; unfold m1X; rw [hi]
          rw [hi] at yo hin
          obtain ⟨c0, c1, c2, c3, c4, c5, c6, c7⟩ := HS.out.ext H.out.2
          have hsz := H.out.2.size
          have hlen : (m1L D F k).length = k := fmL_len1 k
          generalize hLk : m1L D F k = Lk at *
          have HO := Lib.hid ho
          clear hco hi hLk
          go_upto_region 12 with fail
          (try rw [← HO.out])
          clear ho yo hbo HO
          go_upto_region 13 with (go_at_call 88; (with_reducible refine (HFI.out _ _ (HE.out.trans (H.out.2.trans (by (with_reducible (repeat (first | exact Ext.refl _ | assumption | (refine Ext.toSet ?_ (by omega)) | refine Ext.toAlloc ?_ | refine Ext.toDrew ?_ | refine Ext.toDrewN ?_ | refine Ext.trans ?_ (by assumption)))); (first | done | fail "no")))) hin).mono ?_); rintro e1 w2 ⟨rfl, h2⟩; have HX2 := Lib.hid (show Ext wr w2 from (by (with_reducible (repeat (first | exact Ext.refl _ | assumption | (refine Ext.toSet ?_ (by omega)) | refine Ext.toAlloc ?_ | refine Ext.toDrew ?_ | refine Ext.toDrewN ?_ | refine Ext.trans ?_ (by assumption)))); (first | done | fail "no"))); have hs2 := HX2.out.size; clear h2)
          obtain ⟨x, hx⟩ : ∃ x, fiX D F i = x := ⟨_, rfl⟩
          rw [hx] at HM1 ⊢
          clear hx
          obtain ⟨V, hV⟩ : ∃ V, V = w2.alloc (.cells #[I x.op, I x.dst, I x.a, I x.b, I x.sa, I x.sb, I x.im] 83) := ⟨_, rfl⟩
          have HR : Hid (V.rowIs w2.heap.size 83 7 (xr x)) := by rw [hV]; exact xr_row w2 x
          have HXV : Hid (Ext wr V) := by rw [hV]; exact HX2.out.trans (Ext.alloc _ _)
          rw [← hV]; clear hV
          clear c0 c1 c2 c3 c4 c5 c6 c7
          obtain ⟨c0, c1, c2, c3, c4, c5, c6, c7⟩ := HS.out.ext (H.out.2.trans HXV.out)
          obtain ⟨x0, x1, x2, x3, x4, x5, x6, xf⟩ := Wx.of HR.out
          have hsv := HXV.out.size
          go_upto_region 14 with (go_at_call 90; (with_reducible refine (HNX.out _ _ hlt).mono ?_); rintro e2 w3 ⟨rfl, h3⟩; have HX3 := Lib.hid (show Ext V w3 from (by (with_reducible (repeat (first | exact Ext.refl _ | assumption | (refine Ext.toSet ?_ (by omega)) | refine Ext.toAlloc ?_ | refine Ext.toDrew ?_ | refine Ext.toDrewN ?_ | refine Ext.trans ?_ (by assumption)))); (first | done | fail "no"))); clear h3 x0 x1 x2 x3 x4 x5 x6 xf c0 c1 c2 c3 c4 c5 c6 c7; obtain ⟨x0, x1, x2, x3, x4, x5, x6, xf⟩ := Wx.of (World.rowIs.ext HR.out HX3.out))
          have HR2 := Lib.hid (((World.rowIs.ext HR.out HX3.out).set 1 (I ((D.nb : Int) + (k : Int)))).congr (g := xr { x with dst := ((D.nb : Int) + (k : Int)) }) (fun j hj => by
            rcases (show j = 0 ∨ j = 1 ∨ j = 2 ∨ j = 3 ∨ j = 4 ∨ j = 5 ∨ j = 6 by omega) with h | h | h | h | h | h | h <;> subst h <;> rfl))
          have HX4 := Lib.hid (show Ext wr (w3.setCell ⟨w2.heap.size, 1, none⟩ (I ((D.nb : Int) + (k : Int)))) from (HXV.out.trans HX3.out).toSet hs2)
          clear x0 x1 x2 x3 x4 x5 x6 xf
          generalize hV2 : w3.setCell ⟨w2.heap.size, 1, none⟩ (I ((D.nb : Int) + (k : Int))) = V2 at *
          clear hV2
          obtain ⟨x0, x1, x2, x3, x4, x5, x6, xf⟩ := Wx.of HR2.out
          have hs4 := HX4.out.size
          go_wp2_with (at_builtin; refine appX rfl _ _ rfl W1.heap.size A c (L0 ++ Lk) [{ x with dst := ((D.nb : Int) + (k : Int)) }] _ _ (by rw [List.length_append]; omega) rfl rfl (H.out.1.ext (HX4.out.trans (Ext.alloc _ _))) _ _ rfl (bi7_news (bi7_new _ { x with dst := ((D.nb : Int) + (k : Int)) })) (by simp) (by simp; omega) (by simp; omega) ?_; intro g cap w5 hown hgrow hat hltg; have HN := Lib.hid hown; have HG := Lib.hid (growX_ext (H.out.2.trans (HX4.out.trans (Ext.alloc _ _))) (H.out.1.ext (HX4.out.trans (Ext.alloc _ _))) (Nat.le_refl _) hgrow); clear hown hgrow hat hltg)
          go_roundw
          case rel => exact ⟨k + 1, some ⟨g, 0, none⟩, cap, by omega, by go_num, by rw [HM1.out]; simp; omega, by rw [HM1.out, ← List.append_assoc]; exact ⟨HN.out, HG.out⟩⟩
          case measure => simp [intOf]; omega
        · obtain rfl : k = q.ld := by omega
          have HO1 := H
          have hlm : (m1L D F q.ld).length = q.ld := fmL_len1 q.ld
          clear H hk hlt
          obtain ⟨Wn, hWn⟩ : ∃ Wn, Wn = wr := ⟨_, rfl⟩
          have HX5 : Hid (Ext W1 Wn) := by rw [hWn]; exact HO1.out.2
          have HO5 : Hid (OwX Wn W1.heap.size A c (L0 ++ m1L D F q.ld)) := by rw [hWn]; exact HO1.out.1
          rw [← hWn]; clear HO1 hWn
          have hl2 : (L0 ++ m1L D F q.ld).length ≤ 2 * q.lo + q.ld := by rw [List.length_append]; omega
          obtain ⟨L1, hL1⟩ : ∃ L1, L0 ++ m1L D F q.ld = L1 := ⟨_, rfl⟩
          have HL1 := Lib.hid hL1
          rw [hL1] at hl2 HO5 ⊢
          clear hL1 hlm
          obtain ⟨c0, c1, c2, c3, c4, c5, c6, c7⟩ := HS.out.ext HX5.out
          go_wp2_with fail
          clear c0 c1 c2 c3 c4 c5 c6 c7
          have hszn := HX5.out.size
          go_loopw [3, 66] (fun s3 s wr => ∃ (k : Nat) (A : Option Addr) (c : Nat), k ≤ q.ld ∧ s = I k ∧ s3 = .slice A (L1 ++ m2L D k).length c ∧ Hid (OwX wr W1.heap.size A c (L1 ++ m2L D k) ∧ Ext W1 wr)) (fun _ s _ => q.ld - (intOf s).toNat)
          case atStart => exact ⟨0, A, c, Nat.zero_le _, rfl, by simp [m2L, fmL], by simpa [m2L, fmL] using HO5.out, HX5.out⟩
          case round =>
            obtain ⟨k, A, c, hk, rfl, rfl, H⟩ := hrel
            by_cases hlt : k < q.ld
            · have hlt' : (k : Int) < (q.ld : Int) := by omega
              obtain ⟨bo, oo, ho, hbo, hco⟩ := (HM.out.del.ext (HE.out.trans H.out.2)) (by omega)
              have yo : wr.cell? ⟨bo, oo + k, none⟩ = some (I ((dlA D k : Nat) : Int)) := hco k hlt
              obtain ⟨i, hi⟩ : ∃ i, dlA D k = i := ⟨_, rfl⟩
              have HM2 : Hid (m2L D (k + 1) = m2L D k ++ [⟨2, i, ((D.nb : Int) + (k : Int)), 0, 0, 0, 0⟩]) := by show _ = _; rw [m2L_s]; unfold m2X; rw [hi]
              rw [hi] at yo
              obtain ⟨c0, c1, c2, c3, c4, c5, c6, c7⟩ := HS.out.ext H.out.2
              have hsz := H.out.2.size
              have hlen : (m2L D k).length = k := fmL_len1 k
              generalize hLk : m2L D k = Lk at *
              have HO := Lib.hid ho
              clear hco hi hLk
              go_upto_region 19 with fail
              (try rw [← HO.out])
              clear ho yo hbo HO
              go_wp2_with (first
                | (go_at_call 90; (with_reducible refine (HNX.out _ _ hlt).mono ?_); rintro e2 w3 ⟨rfl, h3⟩; have HX3 := Lib.hid (show Ext wr w3 from (by (with_reducible (repeat (first | exact Ext.refl _ | assumption | (refine Ext.toSet ?_ (by omega)) | refine Ext.toAlloc ?_ | refine Ext.toDrew ?_ | refine Ext.toDrewN ?_ | refine Ext.trans ?_ (by assumption)))); (first | done | fail "no"))); have hs3 := HX3.out.size; clear h3)
                | (at_builtin; refine appX rfl _ _ rfl W1.heap.size A c (L1 ++ Lk) [⟨2, i, ((D.nb : Int) + (k : Int)), 0, 0, 0, 0⟩] _ _ (by rw [List.length_append]; omega) rfl rfl (H.out.1.ext (HX3.out.trans (Ext.alloc _ _))) _ _ rfl (bi7_news (bi7_new _ ⟨2, i, ((D.nb : Int) + (k : Int)), 0, 0, 0, 0⟩)) (by simp) (by simp; omega) (by simp; omega) ?_; intro g cap w5 hown hgrow hat hltg; have HN := Lib.hid hown; have HG := Lib.hid (growX_ext (H.out.2.trans (HX3.out.trans (Ext.alloc _ _))) (H.out.1.ext (HX3.out.trans (Ext.alloc _ _))) (Nat.le_refl _) hgrow); clear hown hgrow hat hltg))
              go_roundw
              case rel => exact ⟨k + 1, some ⟨g, 0, none⟩, cap, by omega, by go_num, by rw [HM2.out]; simp; omega, by rw [HM2.out, ← List.append_assoc]; exact ⟨HN.out, HG.out⟩⟩
              case measure => simp [intOf]; omega
            · obtain rfl : k = q.ld := by omega
              have HV : Hid (L1 ++ m2L D q.ld = cdL D F) := by
                show _ = _; unfold cdL; rw [← HL1.out, ← HL0.out, HOL.out, HDL.out]
              have HV2 : Hid ((L1 ++ m2L D q.ld).length = cdN D F) := by show _ = _; rw [HV.out]; rfl
              go_wp2_with fail
              go_ret
              exact ⟨A, c, by rw [← HV2.out]; rfl, by rw [← HV.out]; exact H.out.1.mono (by omega), HE.out.trans H.out.2⟩
end Go.Proofs.YtkocmdpfknoiaaaGreatDoor
