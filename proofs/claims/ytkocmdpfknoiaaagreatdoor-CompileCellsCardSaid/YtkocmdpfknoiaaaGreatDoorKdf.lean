/- The fixed-point machine: a run by the code: the data, the copy of the cells. -/
import Derived.Test.YtkocmdpfknoiaaaGreatDoorKdb
import Derived.Maps.AppendAt
import Derived.Laws.AppendOwnNone
import Derived.Deep.RegionLaw
import Derived.Lib.SliceRun
namespace Go.Proofs.YtkocmdpfknoiaaaGreatDoor
open Go Go.RowKit

theorem lt_no {a b : Int} (h : ¬ a < b) : decide (a < b) = false := by simpa using h
set_option maxRecDepth 100000 in
set_option maxHeartbeats 1000000 in
theorem checkData_any {w : World} {G : Pgm} {p : Pp} {A B : Option Addr} {n cA m cB : Nat} {c IN : Nat → Int} (d : Pm w G p) (ra : Ri w A n c) (rb : Ri w B m IN) (hn : n ≤ maxLen) (hm : m ≤ maxLen) :
    Calls Tryz.prog 59 #[pgv G p, .slice A n cA, .slice B m cB] w fun e w' => e = .returned (errv (daE G n c m IN)) ∧ Ext w w' := by
  have HBD := Lib.hid (Px.new w G p 31)
  obtain ⟨W1, hW1⟩ : ∃ W1, W1 = w.alloc (.cells #[.slice p.AP G.np p.cP, .slice p.AC G.nc p.cC, .slice p.AX G.ni p.cX, .slice p.AO G.no p.cO] 31) := ⟨_, rfl⟩
  have hE : Ext w W1 := by rw [hW1]; exact Ext.alloc _ _
  rw [← hW1] at HBD
  have HAW : Hid (∀ w', Ext w w' → Calls Tryz.prog 48 #[.slice A n cA] w' fun e w'' => e = .returned (.bool (wdE n c == 0)) ∧ Ext w' w'') := fun w' e => areWords_any (ra.ext e) hn
  have HP := Lib.hid d.ports
  have HB := Lib.hid rb
  have HE := Lib.hid hE
  have HLP : G.np ≤ 2 ^ 63 - 1 := d.lp
  have HLC : G.nc ≤ 2 ^ 63 - 1 := d.lc
  unfold maxLen at hn hm
  clear d hE ra rb
  obtain ⟨c0, c1, c2, c3⟩ := HBD.out
  by_cases h1 : n = G.nc
  · have h1' : ((n : Int) != (G.nc : Int)) = false := by simp [h1]
    have h1a := Lib.hid h1
    clear h1
    by_cases hq : wdE n c = 0
    · have h2a := Lib.hid hq
      rw [show (wdE n c == 0) = true by simpa using hq] at HAW
      clear hq
      by_cases h3 : m = G.np
      · have h3' : ((m : Int) != (G.np : Int)) = false := by simp [h3]
        have HV := Lib.hid (show daE G n c m IN = rnE G.np G.P IN by unfold daE; rw [if_neg (by simpa using h1a.out), if_neg (by simpa using h2a.out), if_neg (by simpa using h3)])
        have h3a := Lib.hid h3
        clear h3 h1a h2a
        go_enter Tryz.func59, Tryz.ntmps59
        go_upto_region 1 with fail
        rw [← hW1]; clear hW1
        go_upto_region 5 with (go_at_call 48; (with_reducible refine (HAW.out _ HE.out).mono ?_); rintro e w1 ⟨rfl, hb1⟩)
        clear c0 c1 c2 c3
        have HX1 := Lib.hid hb1
        clear hb1
        obtain ⟨c0, c1, c2, c3⟩ := HBD.out.ext HX1.out
        go_wp2_with fail
        clear c0 c1 c2 c3
        go_loopw [30] (fun s wr => ∃ j : Nat, j ≤ G.np ∧ s = I j ∧ Hid (Ext W1 wr) ∧ Hid (∀ i, i < j → (G.P i).lo ≤ IN i ∧ IN i ≤ (G.P i).hi)) (fun s _ => G.np - (intOf s).toNat)
        case atStart => exact ⟨0, Nat.zero_le _, rfl, HX1, fun i hi => absurd hi (by omega)⟩
        case round =>
          obtain ⟨j, hj, rfl, HX, HG⟩ := hrel
          by_cases hlt : j < G.np
          · obtain ⟨b, o, ha, hba, hc⟩ := (HP.out.ext (HE.out.trans HX.out)) (by omega)
            obtain ⟨x0, x1, x2⟩ := hc j hlt
            have hlm : j < m := by have := h3a.out; omega
            obtain ⟨b', o', eb, hbb, hcb⟩ := (HB.out.ext (HE.out.trans HX.out)) (by omega)
            have xi := hcb j hlm
            have hlt' : (j : Int) < (G.np : Int) := by omega
            have hlm' : (j : Int) < (m : Int) := by omega
            clear hc hcb
            subst eb
            have HR1 := Lib.hid (fun (hh : ¬ ((G.P j).lo ≤ IN j ∧ IN j ≤ (G.P j).hi)) => rnE_3 hlt hh)
            have HG2 : Hid (((G.P j).lo ≤ IN j ∧ IN j ≤ (G.P j).hi) → ∀ i, i < j + 1 → (G.P i).lo ≤ IN i ∧ IN i ≤ (G.P i).hi) := fun hh i hi => by
              by_cases h : i = j
              · subst h; exact hh
              · exact HG.out i (by omega)
            generalize (G.P j).lo = lo at *
            generalize (G.P j).hi = hi at *
            generalize (G.P j).fr = fr at *
            generalize IN j = v at *
            by_cases hl : v < lo
            · have hl2 := decide_eq_true hl
              have HC := Lib.hid (HR1.out (by omega))
              clear HR1 HG2
              go_upto_region 10 with fail
              go_quiet (fail)
              go_wp2_with fail
              go_ret
              exact ⟨by rw [HV.out, HC.out]; rfl, HE.out.trans (HX.out.trans (by repeat (first | exact Ext.refl _ | assumption | exact Ext.alloc _ _ | refine Ext.trans ?_ (by assumption) | refine Ext.trans ?_ (Ext.alloc _ _) | refine Ext.trans ?_ (Ext.drewN _ _) | refine Ext.trans ?_ (Ext.drew _))))⟩
            · have hl2 := lt_no hl
              by_cases hh : hi < v
              · have hh2 := decide_eq_true hh
                have HC := Lib.hid (HR1.out (by omega))
                clear HR1 HG2
                go_upto_region 10 with fail
                go_quiet (fail)
                go_wp2_with fail
                go_ret
                exact ⟨by rw [HV.out, HC.out]; rfl, HE.out.trans (HX.out.trans (by repeat (first | exact Ext.refl _ | assumption | exact Ext.alloc _ _ | refine Ext.trans ?_ (by assumption) | refine Ext.trans ?_ (Ext.alloc _ _) | refine Ext.trans ?_ (Ext.drewN _ _) | refine Ext.trans ?_ (Ext.drew _))))⟩
              · have hh2 := lt_no hh
                have HC := Lib.hid (HG2.out (by omega))
                clear HR1 HG2
                go_upto_region 10 with fail
                go_quiet (fail)
                go_wp2_with fail
                (try rw [← ha])
                go_roundw
                case rel => exact ⟨j + 1, by omega, by go_num, HX.out.trans (by repeat (first | exact Ext.refl _ | assumption | exact Ext.alloc _ _ | refine Ext.trans ?_ (by assumption) | refine Ext.trans ?_ (Ext.alloc _ _) | refine Ext.trans ?_ (Ext.drewN _ _) | refine Ext.trans ?_ (Ext.drew _))), HC⟩
                case measure => simp [intOf]; omega
          · obtain rfl : j = G.np := by omega
            have HC := Lib.hid (rnE_0.2 HG.out)
            go_wp2_with fail
            go_ret
            exact ⟨by rw [HV.out, HC.out]; rfl, HE.out.trans HX.out⟩
      · have h3' : ((m : Int) != (G.np : Int)) = true := by simp; omega
        have HV := Lib.hid (show daE G n c m IN = 11 by unfold daE; rw [if_neg (by simpa using h1a.out), if_neg (by simpa using h2a.out), if_pos h3])
        clear h3 h1a h2a
        go_enter Tryz.func59, Tryz.ntmps59
        go_upto_region 1 with fail
        rw [← hW1]; clear hW1
        go_upto_region 5 with (go_at_call 48; (with_reducible refine (HAW.out _ HE.out).mono ?_); rintro e w1 ⟨rfl, hb1⟩)
        clear c0 c1 c2 c3
        obtain ⟨c0, c1, c2, c3⟩ := HBD.out.ext hb1
        go_wp2_with fail
        go_ret
        exact ⟨by rw [HV.out]; rfl, HE.out.trans hb1⟩
    · have HV := Lib.hid (show daE G n c m IN = 3 by unfold daE; rw [if_neg (by simpa using h1a.out), if_pos hq])
      rw [show (wdE n c == 0) = false by simpa using hq] at HAW
      clear hq h1a
      go_enter Tryz.func59, Tryz.ntmps59
      go_upto_region 1 with fail
      rw [← hW1]; clear hW1
      go_wp2_with (go_at_call 48; (with_reducible refine (HAW.out _ HE.out).mono ?_); rintro e w1 ⟨rfl, hb1⟩)
      go_ret
      exact ⟨by rw [HV.out]; rfl, HE.out.trans hb1⟩
  · have h1' : ((n : Int) != (G.nc : Int)) = true := by simp; omega
    have HV := Lib.hid (show daE G n c m IN = 11 by unfold daE; rw [if_pos h1])
    clear h1
    go_enter Tryz.func59, Tryz.ntmps59
    go_upto_region 1 with fail
    rw [← hW1]; clear hW1
    go_wp2_with fail
    go_ret
    exact ⟨by rw [HV.out]; rfl, HE.out⟩

/-! ### a copy of a list -/
theorem appZ {ops : Array Oper} {rest : List Oper} {o : Oper} {a : Act} {w : World} {Q : Exit → Act → World → Prop} (hgd : o.guard = none) (s x : Operand) (ho : o.op = .call { callee := .builtin .append, args := #[s, x], argTypes := #[24, 24] })
    (base : Nat) (A : Option Addr) (c : Nat) (F : Nat → Int) (hs : a.eval s = .slice A 0 c) (hown : OwI w base A c F 0) (A' : Option Addr) (m c' : Nat) (hx : a.eval x = .slice A' m c') (r : Ri w A' m F) (h0 : A' = none → c' = 0)
    (hn : m ≤ 1099511627776) (hbase : base ≤ w.heap.size)
    (h : ∀ B e w', OwI w' base B e F m → w.grownBy w' (Value.slice A 0 c).ownBlock → wpList Tryz.prog ops Q rest (a.put o.dst (.slice B m e)) w') : wpList Tryz.prog ops Q (o :: rest) a w := by
  obtain ⟨i, hi, hz, h1, hb⟩ := info_parts infoI
  have form : ∀ (v' : Value) (w' : World), w'.ownsRow base 3 1 v' m (ivs F m) → ∃ B e, v' = .slice B m e := fun v' w' hv => by
    obtain ⟨_, ⟨rfl, e0⟩ | ⟨g, cap, cur, rfl, _⟩⟩ := hv
    · exact ⟨none, 0, by rw [e0]⟩
    · exact ⟨_, _, rfl⟩
  cases A' with
  | none =>
    have hm : m = 0 := by
      rcases Nat.eq_zero_or_pos m with h | h
      · exact h
      · obtain ⟨b, o, e, _⟩ := r h; cases e
    subst hm
    rw [h0 rfl] at hx
    refine wpList_append_own_none hgd s x _ ho base 3 i 1 Tryz.underlying24 hi _ 0 [] hs hown hx ?_
    exact h A c w hown ⟨rfl, rfl, rfl, Nat.le_refl _, fun _ _ _ => rfl⟩
  | some ad =>
    have hnews : ∀ j u, (ivs F m)[j]? = some u → w.cell? (ad.add j) = some u := fun j u hj => by
      have hjm : j < m := by
        rcases Nat.lt_or_ge j m with h | h
        · exact h
        · rw [List.getElem?_eq_none (by rw [ivs_len]; omega)] at hj; cases hj
      obtain ⟨b, o, e, hb, hc⟩ := r (by omega)
      obtain rfl := Option.some.inj e
      rw [ivs_get hjm] at hj
      obtain rfl := Option.some.inj hj
      have hadd : (⟨b, o, none⟩ : Addr).add j = ⟨b, o + j, none⟩ := by unfold Addr.add; split <;> simp_all
      rw [hadd, hc j hjm]
    have hone : ∀ u ∈ ivs F m, u.oneCell' = true := fun u hu => by
      obtain ⟨k, hk, rfl⟩ := List.mem_iff_getElem.1 hu
      have hk' : k < m := by rw [ivs_len] at hk; exact hk
      have := ivs_get (F := F) hk'
      rw [List.getElem?_eq_getElem hk] at this
      rw [Option.some.inj this]; rfl
    refine wpList_plain hgd fun _ hK => ?_
    obtain ⟨v', w', hr, h2, h3, _, h5⟩ := run_append_own_at (P := Tryz.prog) w base 24 o.type 3 i _ 1 8 Tryz.underlying24 hi hz h1 hb rfl (by omega) _ 0 [] hown ad m c' (ivs F m) (by rw [ivs_len, Nat.mul_one]) hnews
      hone (by unfold maxLen; omega) (by omega) hbase
    rw [Nat.zero_add, List.nil_append] at h2
    obtain ⟨B, e, rfl⟩ := form v' w' h2
    unfold Oper.wp execOp
    simp only [ho, resolve, invoke, builtin, Sem.run_bind, Sem.run_pure, Result.andThen_ok, List.map_toArray, List.map_cons, List.map_nil, hs, hx, hr]
    exact hK _ _ (h B e w' h2 h3)
/-- A copy of a list of ints: its own memory. -/
def ClR (F : Nat → Int) (n : Nat) (w : World) (e : Ending) (w' : World) : Prop := ∃ B k, e = .returned (.slice B n k) ∧ OwI w' w.heap.size B k F n ∧ Ext w w'
set_option maxRecDepth 100000 in
set_option maxHeartbeats 1000000 in
theorem cloneZ_any {w : World} {A : Option Addr} {n c : Nat} {F : Nat → Int} (r : Ri w A n F) (h0 : A = none → c = 0) (hn : n ≤ 1000) : Calls Tryz.prog 39 #[.slice A n c] w (ClR F n w) := by
  have hnil : ∀ (w : World) (a : Option Addr) (n c n' c' : Nat), (binOp .eql 24 (.slice a n c) (.slice none n' c')).run Tryz.prog w = .ok (.bool a.isNone) w := fun w a n c n' c' => Lib.run_eql_slice_nil w _ _ a n c n' c' Tryz.underlying24
  cases A with
  | none =>
    have hz : n = 0 := by
      rcases Nat.eq_zero_or_pos n with h | h
      · exact h
      · obtain ⟨b, o, e, _⟩ := r h; cases e
    subst hz
    clear r h0
    go_enter Tryz.func39, Tryz.ntmps39
    go_wp2_with fail
    go_ret
    exact ⟨none, 0, rfl, OwI.nil _ _ _, Ext.refl _⟩
  | some ad =>
    have R := Lib.hid (r.ext (Ext.alloc w (.cells #[] 3))); clear r
    have HO : Hid (OwI (w.alloc (.cells #[] 3)) w.heap.size (some ⟨w.heap.size, 0, none⟩) 0 F 0) := World.ownsRow_made w #[] 0 (Nat.le_refl _) (Nat.zero_le _) rfl
    have H0 := Lib.hid h0
    clear h0
    go_enter Tryz.func39, Tryz.ntmps39
    go_wp2_with (at_builtin; refine appZ rfl _ _ rfl w.heap.size (some ⟨w.heap.size, 0, none⟩) 0 F rfl HO.out _ n c rfl R.out H0.out (by omega) (by simp) ?_; intro B e w1 hown hgrow; have O1 := Lib.hid hown; have G1 := Lib.hid hgrow; clear hown hgrow)
    go_ret
    exact ⟨B, e, rfl, O1.out, Below.grown (Ext.alloc w _) G1.out (by simp) (fun k hk => by simp [Value.ownBlock] at hk; omega)⟩
end Go.Proofs.YtkocmdpfknoiaaaGreatDoor
