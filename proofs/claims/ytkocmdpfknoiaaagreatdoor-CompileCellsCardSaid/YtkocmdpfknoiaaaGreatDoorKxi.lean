/- Programs of diagrams: the raw values that are kept, by the code. -/
import Derived.Test.YtkocmdpfknoiaaaGreatDoorKxh
namespace Go.Proofs.YtkocmdpfknoiaaaGreatDoor
open Go Go.RowKit

theorem infoS : (Tryz.prog.info? 24).map (fun i => (i.zero, i.size, i.bytes)) = some (some (.slice none 0 0), 1, 24) := by kernel_rfl
/-- All blocks below lim but g are as they were. -/
structure Kp (g lim : Nat) (w w' : World) : Prop where
  sz : w.heap.size ≤ w'.heap.size
  keep : ∀ b, b < lim → b ≠ g → w'.heap[b]? = w.heap[b]?
theorem Kp.refl (g lim : Nat) (w : World) : Kp g lim w w := ⟨Nat.le_refl _, fun _ _ _ => rfl⟩
theorem Kp.to {g lim : Nat} {w w' w2 : World} (h : Kp g lim w w') (hl : lim ≤ w.heap.size) (e : Ext w' w2) : Kp g lim w w2 :=
  ⟨Nat.le_trans h.sz e.size, fun b hb hg => (e.block b (by have := h.sz; omega)).trans (h.keep b hb hg)⟩
theorem Kp.grow {g lim : Nat} {w w' w2 : World} {o : Option Nat} (h : Kp g lim w w') (hl : lim ≤ w.heap.size) (e : w'.grownBy w2 o) (ho : ∀ k, o = some k → lim ≤ k) : Kp g lim w w2 :=
  ⟨Nat.le_trans h.sz e.size, fun b hb hg => (e.block b (by have := h.sz; omega) (fun q => by have := ho b q.symm; omega)).trans (h.keep b hb hg)⟩
theorem Kp.set {g lim : Nat} {w w' : World} (h : Kp g lim w w') (i : Nat) (v : Value) : Kp g lim w (w'.setCell ⟨g, i, none⟩ v) :=
  ⟨by simpa using h.sz, fun b hb hg => (Below.heap_setCell _ _ _ b hg).trans (h.keep b hb hg)⟩
theorem Ri.kp {g lim : Nat} {w w' : World} {A : Option Addr} {n : Nat} {f : Nat → Int} (r : Ri w A n f) (h : Kp g lim w w') (hA : ∀ b o, A = some ⟨b, o, none⟩ → b < lim ∧ b ≠ g) : Ri w' A n f := fun hn => by
  obtain ⟨b, o, rfl, hb, hc⟩ := r hn
  obtain ⟨h1, h2⟩ := hA b o rfl
  refine ⟨b, o, rfl, Nat.lt_of_lt_of_le hb h.sz, fun i hi => ?_⟩
  rw [← hc i hi]; unfold World.cell?; rw [h.keep b h1 h2]
theorem OwI.offg {w : World} {base c n g : Nat} {A : Option Addr} {F : Nat → Int} (h : OwI w base A c F n) (hg : g < base) (i : Nat) (v : Value) : OwI (w.setCell ⟨g, i, none⟩ v) base A c F n := by
  have e : w.grownBy (w.setCell ⟨g, i, none⟩ v) (some g) := ⟨rfl, rfl, rfl, by simp, fun k _ hk => Below.heap_setCell _ _ _ k (fun q => hk (by rw [q]))⟩
  refine World.ownsRow.kept h e ?_
  cases hv : (Value.slice A n c).ownBlock with
  | none => simp
  | some k => right; have := (h.lt k hv).1; intro e; injection e with e; omega
/-- The lists that are finished: their places, and what lies there. -/
structure FnS (w : World) (g j : Nat) (D : Dia) (F : Nat → Int) (R : Nat → Option Addr) (C : Nat → Nat) : Prop where
  ri : ∀ i, i < j → Ri w (R i) (kpN (D.B i).k) (rwV (D.B i) (F i))
  nn : ∀ i, i < j → R i = none → C i = 0
  bd : ∀ i, i < j → ∀ b o, R i = some ⟨b, o, none⟩ → b < w.heap.size ∧ b ≠ g
theorem FnS.kp {w w' : World} {g j : Nat} {D : Dia} {F : Nat → Int} {R : Nat → Option Addr} {C : Nat → Nat} (h : FnS w g j D F R C) (k : Kp g w.heap.size w w') : FnS w' g j D F R C :=
  ⟨fun i hi => (h.ri i hi).kp k (h.bd i hi), h.nn, fun i hi b o e => ⟨Nat.lt_of_lt_of_le (h.bd i hi b o e).1 k.sz, (h.bd i hi b o e).2⟩⟩
def rwC (D : Dia) (R : Nat → Option Addr) (C : Nat → Nat) (j : Nat) (i : Nat) : Value := if i < j then .slice (R i) (kpN (D.B i).k) (C i) else .slice none 0 0
/-- What rawsOf is asked. -/
def RwR (D : Dia) (F : Nat → Int) (w : World) (e : Ending) (w' : World) : Prop :=
  (rwsE D F = 0 ∧ ∃ g, w.heap.size ≤ g ∧ e = .returned (.tuple #[.slice (some ⟨g, 0, none⟩) D.nb D.nb, .nilIface]) ∧ RwsM w' (some ⟨g, 0, none⟩) D.nb D F ∧ Ext w w') ∨
  (rwsE D F ≠ 0 ∧ e = .returned (.tuple #[.slice none 0 0, .iface 94 (I (rwsE D F))]) ∧ Ext w w')
theorem FnS.next {w : World} {g j c : Nat} {D : Dia} {F : Nat → Int} {R : Nat → Option Addr} {C : Nat → Nat} {A : Option Addr} (h : FnS w g j D F R C) (r : Ri w A (kpN (D.B j).k) (rwV (D.B j) (F j))) (h0 : A = none → c = 0) (hb : ∀ b o, A = some ⟨b, o, none⟩ → b < w.heap.size ∧ b ≠ g) :
    FnS w g (j + 1) D F (fun i => if i = j then A else R i) (fun i => if i = j then c else C i) := by
  refine ⟨fun i hi => ?_, fun i hi => ?_, fun i hi => ?_⟩
  all_goals
    by_cases e : i = j
    · subst e; simp only [if_pos]; first | exact r | exact h0 | exact hb
    · simp only [if_neg e]; first | exact h.ri i (by omega) | exact h.nn i (by omega) | exact h.bd i (by omega)
theorem kpN_le (k : Int) : kpN k ≤ 2 := by unfold kpN; split <;> (try split) <;> omega
theorem Rk.kp {g lim : Nat} {w w' : World} {A : Option Addr} {n : Nat} {b : Blk} (r : Rk w A n b) (h : Kp g lim w w') (hA : ∀ b o, A = some ⟨b, o, none⟩ → b < lim ∧ b ≠ g) : Rk w' A n b := fun hn => by
  obtain ⟨gb, o, rfl, hb, hc⟩ := r hn
  obtain ⟨h1, h2⟩ := hA gb o rfl
  have q : ∀ j, w'.cell? ⟨gb, j, none⟩ = w.cell? ⟨gb, j, none⟩ := fun j => by unfold World.cell?; rw [h.keep gb h1 h2]
  exact ⟨gb, o, rfl, Nat.lt_of_lt_of_le hb h.sz, fun i hi => by rw [q, q]; exact hc i hi⟩
def rwC2 (D : Dia) (R : Nat → Option Addr) (C : Nat → Nat) (j : Nat) (A : Option Addr) (k c : Nat) (i : Nat) : Value := if i = j then .slice A k c else rwC D R C j i
/-- What is kept while the scalars of block j are turned. -/
structure InS (W1 w2 w : World) (g : Nat) (D : Dia) (F : Nat → Int) (R : Nat → Option Addr) (C : Nat → Nat) (j k : Nat) (A : Option Addr) (c : Nat) : Prop where
  row : w.rowIs g 24 D.nb (rwC2 D R C j A k c)
  own : OwI w w2.heap.size A c (rwV (D.B j) (F j)) k
  kp : Kp g w2.heap.size w2 w
  ext : Ext W1 w
  ze : ∀ i, i < k → rwE (D.B j) (F j) i = 0
set_option maxRecDepth 100000 in
set_option maxHeartbeats 4000000 in
theorem rawsOf_any {w : World} {D : Dia} {F : Nat → Int} {p : Pl} {Af : Option Addr} {cf : Nat} (d : Dm w D p) (ok : OkD D) (rf : Ri w Af D.nb F) : Calls Tryz.prog 86 #[dgv D p, .slice Af D.nb cf] w (RwR D F w) := by
  have hnb := ok.nb
  have HBD := Lib.hid (Bd.new w D p 26)
  obtain ⟨W1, hW1⟩ : ∃ W1, W1 = w.alloc (.cells #[.slice p.AI D.ni p.cI, .slice p.AB D.nb p.cB, .slice p.AO D.no p.cO] 26) := ⟨_, rfl⟩
  have HE : Hid (Ext w W1) := by rw [hW1]; exact Ext.alloc _ _
  have hz1 : W1.heap.size = w.heap.size + 1 := by rw [hW1]; simp
  rw [← hW1] at HBD
  have HD := Lib.hid d
  have HF := Lib.hid rf
  have HK : Hid (∀ i, i < D.nb → 0 ≤ (D.B i).k ∧ (D.B i).k ≤ 11) := fun i hi => ok.k0 i hi
  have hmk := run_make_row' 43 24 (.slice none 0 0) 24 Tryz.underlying43 infoS rfl .i64 .i64 D.nb (by omega) (by omega)
  clear d ok rf
  obtain ⟨c0, c1, c2⟩ := HBD.out
  go_enter Tryz.func86, Tryz.ntmps86
  go_upto_region 1 with fail
  rw [← hW1]; clear hW1
  go_wp2_with fail
  clear c0 c1 c2 hmk
  have HR0 := Lib.hid (World.rowIs_made W1 (.slice none 0 0) D.nb 24)
  rw [hz1] at HR0
  go_loopw [20] (fun s wr => ∃ (j : Nat), j ≤ D.nb ∧ s = I j ∧ Hid (∃ R C, wr.rowIs (w.heap.size + 1) 24 D.nb (rwC D R C j) ∧ FnS wr (w.heap.size + 1) j D F R C ∧ Ext W1 wr ∧ ∀ i, i < j → bkR (D.B i) (F i) = 0)) (fun s _ => D.nb - (intOf s).toNat)
  case atStart => exact ⟨0, Nat.zero_le _, rfl, fun _ => none, fun _ => 0, HR0.out.congr fun i hi => by unfold rwC; rw [if_neg (by omega)], ⟨fun i hi => by omega, fun i hi => by omega, fun i hi => by omega⟩, Ext.alloc _ _, fun i hi => by omega⟩
  case round =>
    obtain ⟨j, hj, rfl, H⟩ := hrel
    by_cases hlt : j < D.nb
    · have hlt' : (j : Int) < (D.nb : Int) := by omega
      have H' := H.out
      obtain ⟨R, C, h1, h2, h3, h4⟩ := H'
      have HX := Lib.hid h3; have HW := Lib.hid h1; have HFN := Lib.hid h2; have HZ := Lib.hid h4
      clear h1 h2 h3 h4 H
      obtain ⟨bb, ob, hb, hbb, hcb⟩ := (HD.out.ext (HE.out.trans HX.out)).blocks (by omega)
      obtain ⟨y0, y1, y2, y3, y4, y5⟩ := hcb j hlt
      have HB := Lib.hid hb
      have hk := HK.out j hlt
      have hkn := kpN_le (D.B j).k
      have HKE : Hid (∀ w', Calls Tryz.prog 133 #[bkv (D.B j).k (p.AA j) (D.B j).n (p.cA j) (D.B j).vn (D.B j).ve (D.B j).un (D.B j).ue] w' (KpR (D.B j) w')) := fun w' => kept_any (D.B j) _ _ _ w' hk.1 hk.2
      have hsz := HX.out.size
      clear hcb hk
      obtain ⟨kn, hkn2⟩ : ∃ kn, kpN (D.B j).k = kn := ⟨_, rfl⟩
      have HKN := Lib.hid hkn2
      unfold KpR at HKE
      rw [hkn2] at hkn HKE
      clear hkn2
      obtain ⟨Wr, hWr⟩ : ∃ Wr, Wr = wr := ⟨_, rfl⟩
      rw [← hWr] at HX HW HFN y0 y1 y2 y3 y4 y5 hbb hsz ⊢
      clear hWr
      go_upto_region 6 with (go_at_call 133; (with_reducible refine (HKE.out _).mono ?_); rintro e1 wk ⟨Ak, ck, rfl, hrk, hnk, h2⟩; have HX2 := Lib.hid (show Ext Wr wk from (by (with_reducible (repeat (first | exact Ext.refl _ | assumption | (refine Ext.toSet ?_ (by omega)) | refine Ext.toAlloc ?_ | refine Ext.toDrew ?_ | refine Ext.toDrewN ?_ | refine Ext.trans ?_ (by assumption)))); (first | done | fail "no"))); have HRK := Lib.hid hrk; have HNK := Lib.hid hnk; have hs2 := HX2.out.size; clear h2 hrk hnk)
      (try rw [← HB.out])
      clear y0 y1 y2 y3 y4 y5 hb hbb
      have HNK2 : Hid (0 < kn → ∀ b o, Ak = some ⟨b, o, none⟩ → b < wk.heap.size ∧ b ≠ w.heap.size + 1) := fun h0 b o e => by
        have hb : Wr.heap.size ≤ b := by
          subst e
          exact Nat.le_trans (by simp) (HNK.out b o rfl)
        obtain ⟨b', o', e', hlt', _⟩ := HRK.out h0
        rw [e] at e'; injection e' with e'; injection e' with e1 e2
        have := HW.out.lt
        exact ⟨by omega, by omega⟩
      have HI0 : Hid (InS W1 wk wk (w.heap.size + 1) D F R C j 0 none 0) := ⟨(HW.out.ext HX2.out).congr fun i hi => by
          unfold rwC2
          by_cases e : i = j
          · subst e; rw [if_pos rfl]; unfold rwC; rw [if_neg (by omega)]
          · rw [if_neg e], OwI.nil _ _ _, Kp.refl _ _ _, HX.out.trans HX2.out, fun i hi => by omega⟩
      have hgl := HW.out.lt
      go_loopw [28] (fun s wr => ∃ (k : Nat), k ≤ kn ∧ s = I k ∧ Hid (∃ A c, InS W1 wk wr (w.heap.size + 1) D F R C j k A c)) (fun s _ => kn - (intOf s).toNat)
      case atStart => exact ⟨0, Nat.zero_le _, rfl, none, 0, HI0.out⟩
      case round =>
        obtain ⟨k, hk, rfl, H⟩ := hrel
        have H' := H.out
        obtain ⟨A, c, h1⟩ := H'
        have HI := Lib.hid h1
        clear h1 H
        by_cases hkl : k < kn
        · have hkl' : (k : Int) < (kn : Int) := by omega
          obtain ⟨ga, oa, hAk, hgb, hgc⟩ := (HRK.out.kp HI.out.kp (HNK2.out (by omega))) (by omega)
          obtain ⟨z0, z1⟩ := hgc k hkl
          have HAK := Lib.hid hAk
          clear hgc
          obtain ⟨m, hm⟩ : ∃ m, kpM (D.B j) k = m := ⟨_, rfl⟩
          obtain ⟨e, he⟩ : ∃ e, kpX (D.B j) k = e := ⟨_, rfl⟩
          have HRV : Hid (rwV (D.B j) (F j) k = rawN m e (F j)) := by show _ = _; unfold rwV; rw [hm, he]
          have HRE : Hid (rwE (D.B j) (F j) k = rawE m e (F j)) := by show _ = _; unfold rwE; rw [hm, he]
          rw [hm] at z0
          rw [he] at z1
          clear hm he
          go_upto_region 8 with fail
          (try rw [← HAK.out])
          clear z0 z1 hAk hgb
          obtain ⟨bf, of, hff, hfl, hfc⟩ := (HF.out.ext (HE.out.trans (HI.out.ext.trans (Ext.alloc wr (.cells #[I m, I e] 49))))) (by omega)
          have zf := hfc j hlt
          have HFF := Lib.hid hff
          obtain ⟨V, hV⟩ : ∃ V, V = wr.alloc (.cells #[I m, I e] 49) := ⟨_, rfl⟩
          have x0 : V.cell? ⟨wr.heap.size, 0, none⟩ = some (I m) := by rw [hV]; go_simp
          have x1 : V.cell? ⟨wr.heap.size, 1, none⟩ = some (I e) := by rw [hV]; go_simp
          have hxl : wr.heap.size < V.heap.size := by rw [hV]; simp
          have HXV : Hid (Ext wr V) := by rw [hV]; exact Ext.alloc _ _
          rw [← hV] at hfl zf ⊢
          rw [← hV] at hfc
          clear hV hfc
          have HRAW := Lib.hid (fun w' => Raw_any m e (F j) w')
          have hb := Ext.refl V
          rw [hff]
          have hL := fun (x : Later _) => (Ext.trans hb x.ext).old.1
          refine wp_region_later (by kernel_rfl) (by kernel_rfl) ?_
          repeat (go_big_quiet_step ((go_at_call 34; exact Calls.later ((HRAW.out _).mono fun _ _ h => h))))
          refine wpQuiet_nil ?_
          intro w2 hw2
          replace hb := Ext.trans hb (Later.of hw2)
          clear hw2 hL
          obtain ⟨hc, hf⟩ := hb.old
          (try rw [← HFF.out])
          have HXW : Hid (Ext wr w2) := HXV.out.trans hb
          clear hc hf hb; clear x0 x1 hxl hfl zf hff
          have HIW := Lib.hid (show Ext W1 w2 from HI.out.ext.trans HXW.out)
          cases hre : rawE m e (F j) == 0 with
          | false =>
            have hre' : rawE m e (F j) ≠ 0 := by simpa using hre
            rw [errv_n hre']
            have HFIN : Hid (rwsE D F = rawE m e (F j) ∧ rwsE D F ≠ 0) := by
              have h1 : bkR (D.B j) (F j) = rawE m e (F j) := by
                unfold bkR
                rw [fstE_hit (j := k) HI.out.ze (by rw [HKN.out]; exact hkl) (by rw [HRE.out]; exact hre'), HRE.out]
              have h2 : rwsE D F = bkR (D.B j) (F j) := fstE_hit (f := fun i => bkR (D.B i) (F i)) HZ.out hlt (by show bkR (D.B j) (F j) ≠ 0; rw [h1]; exact hre')
              exact ⟨by rw [h2, h1], by rw [h2, h1]; exact hre'⟩
            clear hre hre'
            generalize rawE m e (F j) = er at *
            go_wp2_with fail
            go_ret2
            exact .inr ⟨HFIN.out.2, by rw [HFIN.out.1]; rfl, HE.out.trans HIW.out⟩
          | true =>
            have hre' : rawE m e (F j) = 0 := by simpa using hre
            rw [hre', errv_z]
            have HZ2 : Hid (∀ i, i < k + 1 → rwE (D.B j) (F j) i = 0) := fun i hi => by
              by_cases q : i = k
              · subst q; rw [HRE.out, hre']
              · exact HI.out.ze i (by omega)
            have HRV2 : Hid (I (rawN m e (F j)) = I (rwV (D.B j) (F j) k)) := by show _ = _; rw [HRV.out]
            rw [HRV2.out]
            clear hre hre' HRV2
            have HR2 := Lib.hid (HI.out.row.ext HXW.out)
            have r1 := HR2.out.cell hlt
            have r2 := HR2.out.frozen j
            have r3 : rwC2 D R C j A k c j = .slice A k c := if_pos rfl
            rw [r3] at r1
            have hkz := HI.out.kp.sz
            have hww := HXW.out.size
            clear r3
            have HOA := Lib.hid (HI.out.own.ext (HXW.out.trans (Ext.alloc w2 (.cells #[I (rwV (D.B j) (F j) k)] 3))))
            have HRA := Lib.hid (World.rowIs.ext HR2.out (Ext.alloc w2 (.cells #[I (rwV (D.B j) (F j) k)] 3)))
            have HXA := Lib.hid (HXW.out.trans (Ext.alloc w2 (.cells #[I (rwV (D.B j) (F j) k)] 3)))
            go_wp2_with (at_builtin; refine appI rfl _ _ rfl wk.heap.size A c (rwV (D.B j) (F j)) k rfl HOA.out _ _ rfl (by go_simp) (by omega) (by simp; omega) ?_; intro g2 cap w5 hown hgrow hat hltg; have HN := Lib.hid hown; have HG := Lib.hid hgrow; have HR5 := Lib.hid (HRA.out.of_block (hgrow.block (w.heap.size + 1) HRA.out.lt (fun q => by have := (HOA.out.lt _ q.symm).1; omega))); have q1 := HR5.out.cell hlt; have q2 := HR5.out.frozen j; clear hown hgrow hat hltg)
            go_roundw
            case rel => exact ⟨k + 1, by omega, by go_num, some ⟨g2, 0, none⟩, cap, (HR5.out.set j (.slice (some ⟨g2, 0, none⟩) (k + 1) cap)).congr (fun i hi => by unfold rwC2; by_cases e : i = j <;> simp [e]), HN.out.offg (by omega) _ _, ((HI.out.kp.to (Nat.le_refl _) HXA.out).grow (Nat.le_refl _) HG.out (fun b hb => (HOA.out.lt b hb).1)).set _ _, (growI_ext (HI.out.ext.trans HXA.out) HOA.out (by omega) HG.out).toSet (by omega), HZ2.out⟩
            case measure => simp [intOf]; omega
        · obtain rfl : k = kn := by omega
          have HFN2 : Hid (FnS wr (w.heap.size + 1) (j + 1) D F (fun i => if i = j then A else R i) (fun i => if i = j then c else C i)) := by
            refine ((HFN.out.kp ⟨HX2.out.size, fun b hb _ => HX2.out.block b hb⟩).kp HI.out.kp).next ?_ ?_ ?_
            · rw [HKN.out]; exact HI.out.own.ri
            · exact HI.out.own.len0
            · intro b o e
              have := HI.out.own.blk b o e
              exact ⟨this.2, by omega⟩
          have HW2 : Hid (wr.rowIs (w.heap.size + 1) 24 D.nb (rwC D (fun i => if i = j then A else R i) (fun i => if i = j then c else C i) (j + 1))) := HI.out.row.congr fun i hi => by
            unfold rwC2 rwC
            by_cases e : i = j
            · subst e; rw [if_pos rfl, if_pos (by omega)]; show _ = Value.slice (if i = i then A else R i) _ (if i = i then c else C i); rw [if_pos rfl, if_pos rfl, HKN.out]
            · simp only [if_neg e]
              by_cases q : i < j
              · rw [if_pos q, if_pos (by omega)]
              · rw [if_neg q, if_neg (by omega)]
          have HZ2 : Hid (∀ i, i < j + 1 → bkR (D.B i) (F i) = 0) := fun i hi => by
            by_cases q : i = j
            · subst q; unfold bkR; rw [HKN.out]; exact fstE_none HI.out.ze
            · exact HZ.out i (by omega)
          go_wp2_with fail
          go_roundw
          case rel => exact ⟨j + 1, by omega, by go_num, _, _, HW2.out, HFN2.out, HI.out.ext, HZ2.out⟩
          case measure => simp [intOf]; omega
    · obtain rfl : j = D.nb := by omega
      have H' := H.out
      obtain ⟨R, C, h1, h2, h3, h4⟩ := H'
      have HV : Hid (rwsE D F = 0 ∧ RwsM wr (some ⟨w.heap.size + 1, 0, none⟩) D.nb D F ∧ Ext W1 wr) := ⟨fstE_none h4, fun hn => ⟨_, _, rfl, h1.lt, fun i hi => ⟨R i, C i, by
        have := h1.cell hi
        unfold rwC at this
        rw [if_pos hi] at this
        rw [Nat.zero_add]; exact this, h2.ri i hi, h2.nn i hi⟩⟩, h3⟩
      clear h1 h2 h3 h4 H
      go_wp2_with fail
      go_ret2
      exact .inl ⟨HV.out.1, _, Nat.le_succ _, rfl, HV.out.2.1, HE.out.trans HV.out.2.2⟩
end Go.Proofs.YtkocmdpfknoiaaaGreatDoor
