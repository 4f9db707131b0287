/- The fixed-point machine: law CodeAgain: a counter. -/
import Derived.Test.YtommlhdiefoocaaKdk
import Derived.Test.YtommlhdiefoocaaKdl
import Derived.Test.YtommlhdiefoocaaKop
namespace Go.Proofs.Ytommlhdiefoocaa
open Go Go.RowKit

theorem shC0 {x : Int} (h : wdB x = true) : shC x 0 = x := by
  have hw := wdB_iff.1 h
  unfold shC
  rw [if_neg (by omega), kcl_id (by omega) (by omega)]
  show x * 2 ^ 0 = x
  omega
theorem sat_id {x : Int} (h : wdB x = true) : sat x = x := by have hw := wdB_iff.1 h; exact kcl_id hw.1 hw.2
/-- The counter's program. -/
def agG : Pgm := ⟨1, fun _ => ⟨-2147483648, 2147483647, 0⟩, 2, fun _ => 0, 2, fun i => if i = 0 then ⟨0, 0, 0, 0, 0, 0, 0⟩ else ⟨3, 1, 0, 1, 0, 0, 0⟩, 1, fun _ => 1⟩
theorem ag_chk : chP agG = 0 := by decide +kernel
theorem ag_run {n : Int} {F : Nat → Int} (hn : wdB n = true) (hF : ∀ i, i < 2 → wdB (F i) = true) :
    (runC agG.X (fun _ => n) F 2).1 1 = sat (F 1 + n) ∧ (runC agG.X (fun _ => n) F 2).2 = (sat (F 1 + n) != F 1 + n) := by
  have e0 : reC ⟨0, 0, 0, 0, 0, 0, 0⟩ F (fun _ => n) = n := shC0 hn
  have s0 : runC agG.X (fun _ => n) F 1 = (fun i => if i = 0 then n else F i, false) := by
    rw [runC_step]
    show ((fun i => if i = (0 : Int).toNat then sat (reC ⟨0, 0, 0, 0, 0, 0, 0⟩ F (fun _ => n)) else F i), false || !(sat (reC ⟨0, 0, 0, 0, 0, 0, 0⟩ F (fun _ => n)) == reC ⟨0, 0, 0, 0, 0, 0, 0⟩ F (fun _ => n))) = _
    rw [e0, sat_id hn]
    simp
  have e1 : reC ⟨3, 1, 0, 1, 0, 0, 0⟩ (fun i => if i = 0 then n else F i) (fun _ => n) = F 1 + n := by
    show shC n 0 + shC (F 1) 0 = _
    rw [shC0 hn, shC0 (hF 1 (by omega))]; omega
  rw [runC_step, s0]
  show sat (reC ⟨3, 1, 0, 1, 0, 0, 0⟩ (fun i => if i = 0 then n else F i) (fun _ => n)) = _ ∧ (false || !(sat (reC ⟨3, 1, 0, 1, 0, 0, 0⟩ (fun i => if i = 0 then n else F i) (fun _ => n)) == reC ⟨3, 1, 0, 1, 0, 0, 0⟩ (fun i => if i = 0 then n else F i) (fun _ => n))) = _
  rw [e1]
  exact ⟨rfl, by simp [bne]⟩
set_option maxHeartbeats 400000 in
theorem clipP_any (n lo hi : Int) (w : World) (hl : lo ≤ hi) : Calls Try.prog 24 #[I n, I lo, I hi] w fun e w' => e = .returned (I (kcl n lo hi)) ∧ Ext w w' := by
  by_cases h : n < lo
  · have e : kcl n lo hi = lo := by unfold kcl; rw [if_pos h]
    have h3 : ¬ hi < n := by omega
    rw [e]; clear e hl
    go_enter Try.func24, Try.ntmps24
    go_wp2
    go_ret
    exact ⟨rfl, Ext.refl _⟩
  · by_cases h2 : hi < n
    · have e : kcl n lo hi = hi := by unfold kcl; rw [if_neg h, if_pos h2]
      rw [e]; clear e
      go_enter Try.func24, Try.ntmps24
      go_wp2
      all_goals (go_ret; exact ⟨ret_int (by omega), Ext.refl _⟩)
    · have e : kcl n lo hi = n := kcl_id (by omega) (by omega)
      rw [e]; clear e hl
      go_enter Try.func24, Try.ntmps24
      go_wp2
      all_goals (go_ret; exact ⟨ret_int (by omega), Ext.refl _⟩)
/-- What the law asks of a run of the counter. -/
def AgR (n s : Int) (w : World) (e : Ending) (w' : World) : Prop := ∃ A k B l F, e = .returned (.tuple #[.agg #[.slice A 2 k, .slice B 1 l, .bool (sat (s + n) != s + n)], .nilIface]) ∧ Ri w' A 2 F ∧ (∀ i, i < 2 → wdB (F i) = true) ∧ F 1 = sat (s + n) ∧ Ri w' B 1 (fun _ => sat (s + n)) ∧ (A = none → k = 0) ∧ Ext w w'
structure AgP (w : World) (p : Pp) : Prop where
  pm : Pm w agG p
theorem ag_call {w : World} {p : Pp} {A : Option Addr} {k b : Nat} {n : Int} {F : Nat → Int} (d : Pm w agG p) (ra : Ri w A 2 F) (hF : ∀ i, i < 2 → wdB (F i) = true) (hA : A = none → k = 0) (hn : wdB n = true) (rb : Ri w (some ⟨b, 0, none⟩) 1 (fun _ => n)) :
    Calls Try.prog 15 #[pgv agG p, .slice A 2 k, .slice (some ⟨b, 0, none⟩) 1 1] w (AgR n (F 1) w) := by
  have hd : daE agG agG.nc F 1 (fun _ => n) = 0 := daE_of (G := agG) hF (fun i hi => wdB_iff.1 hn)
  refine (Run_ok (cA := k) (cB := 1) d ag_chk ra rb hA hd).mono fun e w' hr => ?_
  obtain ⟨A', k', B, l, he, r1, r2, z1, _, _, _, _, hx⟩ := hr
  obtain ⟨v1, v2⟩ := ag_run hn hF
  exact ⟨A', k', B, l, _, by rw [he, ← v2]; rfl, r1, runC_wd hF 2, v1, r2.congr (fun i hi => v1), z1, hx⟩

def agQ (g : Nat) : Pp := ⟨some ⟨g, 0, none⟩, 1, some ⟨g + 1, 0, none⟩, 2, some ⟨g + 1 + 1 + 1, 0, none⟩, 2, some ⟨g + 1 + 1, 0, none⟩, 1⟩
theorem ag_world (wa : World) : Pm (((((wa.alloc (.cells #[I (-2147483648), I 2147483647, I 0] 62)).alloc (.cells #[I 0, I 0] 3)).alloc (.cells #[I 1] 3)).alloc (.cells #[I 0, I 0, I 0, I 0, I 0, I 0, I 0, I 3, I 1, I 0, I 1, I 0, I 0, I 0] 52)).alloc (.cells #[.slice (some ⟨wa.heap.size, 0, none⟩) 1 1, .slice (some ⟨wa.heap.size + 1, 0, none⟩) 2 2, .slice (some ⟨wa.heap.size + 1 + 1 + 1, 0, none⟩) 2 2, .slice (some ⟨wa.heap.size + 1 + 1, 0, none⟩) 1 1] 26)) agG (agQ wa.heap.size) ∧ Px (((((wa.alloc (.cells #[I (-2147483648), I 2147483647, I 0] 62)).alloc (.cells #[I 0, I 0] 3)).alloc (.cells #[I 1] 3)).alloc (.cells #[I 0, I 0, I 0, I 0, I 0, I 0, I 0, I 3, I 1, I 0, I 1, I 0, I 0, I 0] 52)).alloc (.cells #[.slice (some ⟨wa.heap.size, 0, none⟩) 1 1, .slice (some ⟨wa.heap.size + 1, 0, none⟩) 2 2, .slice (some ⟨wa.heap.size + 1 + 1 + 1, 0, none⟩) 2 2, .slice (some ⟨wa.heap.size + 1 + 1, 0, none⟩) 1 1] 26)) (wa.heap.size + 1 + 1 + 1 + 1) agG (agQ wa.heap.size) ∧ Ext wa (((((wa.alloc (.cells #[I (-2147483648), I 2147483647, I 0] 62)).alloc (.cells #[I 0, I 0] 3)).alloc (.cells #[I 1] 3)).alloc (.cells #[I 0, I 0, I 0, I 0, I 0, I 0, I 0, I 3, I 1, I 0, I 1, I 0, I 0, I 0] 52)).alloc (.cells #[.slice (some ⟨wa.heap.size, 0, none⟩) 1 1, .slice (some ⟨wa.heap.size + 1, 0, none⟩) 2 2, .slice (some ⟨wa.heap.size + 1 + 1 + 1, 0, none⟩) 2 2, .slice (some ⟨wa.heap.size + 1 + 1, 0, none⟩) 1 1] 26)) := by
  refine ⟨⟨fun _ => ⟨_, _, rfl, by (first | (simp; done) | (simp; omega)), fun i hi => ?_⟩, fun _ => ⟨_, _, rfl, by (first | (simp; done) | (simp; omega)), fun i hi => ?_⟩, fun _ => ⟨_, _, rfl, by simp, fun i hi => ?_⟩, fun _ => ⟨_, _, rfl, by (first | (simp; done) | (simp; omega)), fun i hi => ?_⟩, by decide, by decide, by decide, by decide, fun e => (by cases e), Nat.le_refl _⟩, ⟨by go_simp; exact ⟨rfl, rfl, rfl⟩, by go_simp; exact ⟨rfl, rfl, rfl⟩, by go_simp; exact ⟨rfl, rfl, rfl⟩, by go_simp; exact ⟨rfl, rfl, rfl⟩⟩, ((((Ext.alloc _ _).toAlloc).toAlloc).toAlloc).toAlloc⟩
  · have h : i = 0 := by have : i < 1 := hi; omega
    subst h
    exact ⟨by go_simp; rfl, by go_simp; rfl, by go_simp; rfl⟩
  · have h : i = 0 ∨ i = 1 := by have : i < 2 := hi; omega
    rcases h with h | h <;> subst h <;> (go_simp; rfl)
  · have h : i = 0 ∨ i = 1 := by have : i < 2 := hi; omega
    rcases h with h | h <;> subst h <;> exact ⟨by go_simp; rfl, by go_simp; rfl, by go_simp; rfl, by go_simp; rfl, by go_simp; rfl, by go_simp; rfl, by go_simp; rfl⟩
  · have h : i = 0 := by have : i < 1 := hi; omega
    subst h
    go_simp; rfl

set_option maxRecDepth 100000 in
set_option maxHeartbeats 4000000 in
theorem again_any {W : World} {A : Option Addr} {n c : Nat} {X : Nat → Int} (r : R32 W A n X) (hn : n ≤ maxLen) (hX : ∀ i, i < n → wdB (X i) = true) :
    Calls Try.prog 9 #[.slice A n c] W fun e w' => e = .returned (.bool true) ∧ Ext W w' := by
  have HW := Lib.hid awakeP_any
  unfold maxLen at hn
  by_cases hl : 100 < n
  · have hl' : (100 : Int) < (n : Int) := by omega
    clear r hX
    go_enter Try.func9, Try.ntmps9
    have hb := Ext.refl W
    go_wp2_with (go_at_call 10; (with_reducible refine (HW.out _).mono ?_); rintro e w1 ⟨rfl, hb1⟩; replace hb := hb.trans hb1; clear hb1)
    go_ret
    exact ⟨rfl, hb⟩
  · have hl' : ¬ (100 : Int) < (n : Int) := by omega
    have HR := Lib.hid r
    have HXW := Lib.hid hX
    clear r hX
    go_enter Try.func9, Try.ntmps9
    go_upto_region 3 with (go_at_call 10; (with_reducible refine (HW.out _).mono ?_); rintro e wa ⟨rfl, ha⟩)
    have HA := Lib.hid ha
    clear ha
    go_upto_region 4 with fail
    have HAG := Lib.hid (ag_world wa)
    obtain ⟨W1, hW1⟩ : ∃ W1, W1 = ((((wa.alloc (.cells #[I (-2147483648), I 2147483647, I 0] 62)).alloc (.cells #[I 0, I 0] 3)).alloc (.cells #[I 1] 3)).alloc (.cells #[I 0, I 0, I 0, I 0, I 0, I 0, I 0, I 3, I 1, I 0, I 1, I 0, I 0, I 0] 52)).alloc (.cells #[.slice (some ⟨wa.heap.size, 0, none⟩) 1 1, .slice (some ⟨wa.heap.size + 1, 0, none⟩) 2 2, .slice (some ⟨wa.heap.size + 1 + 1 + 1, 0, none⟩) 2 2, .slice (some ⟨wa.heap.size + 1 + 1, 0, none⟩) 1 1] 26) := ⟨_, rfl⟩
    rw [← hW1] at HAG ⊢
    clear hW1
    obtain ⟨q, hq⟩ : ∃ q : Pp, q = agQ wa.heap.size := ⟨_, rfl⟩
    have HPM : Hid (Pm W1 agG q) := by rw [hq]; exact HAG.out.1
    have HPX : Hid (∀ w', Ext W1 w' → Px w' (wa.heap.size + 1 + 1 + 1 + 1) agG q) := fun w' e => by rw [hq]; exact HAG.out.2.1.ext e
    have HE := Lib.hid (HA.out.trans HAG.out.2.2)
    clear HAG hq
    generalize wa.heap.size + 1 + 1 + 1 + 1 = gp at *
    obtain ⟨c0, c1, c2, c3⟩ := HPX.out _ (Ext.refl _)
    have HST := Lib.hid (Start_ok HPM.out ag_chk)
    go_upto_region 9 with (go_at_call 13; (with_reducible refine HST.out.mono ?_); rintro e w2 ⟨A0, k0, rfl, r0, z0, _, hx0⟩)
    have HX0 := Lib.hid hx0
    have HR0 := Lib.hid r0
    have HZ0 := Lib.hid z0
    clear hx0 r0 z0 c0 c1 c2 c3 HST
    go_wp2_with fail
    go_loopw [4, 6, 37] (fun s4 s6 s wr => ∃ (j : Nat) (A : Option Addr) (k : Nat) (F : Nat → Int), j ≤ n ∧ s = I j ∧ s4 = .slice A 2 k ∧ s6 = I (F 1) ∧ Hid (Ext W1 wr ∧ Ri wr A 2 F ∧ (∀ i, i < 2 → wdB (F i) = true) ∧ (A = none → k = 0))) (fun _ _ s _ => n - (intOf s).toNat)
    case atStart => exact ⟨0, A0, k0, fun _ => 0, Nat.zero_le _, rfl, rfl, rfl, HX0.out, HR0.out, fun i hi => rfl, HZ0.out⟩
    case round =>
      obtain ⟨j, A, k, F, hj, rfl, rfl, rfl, H⟩ := hrel
      by_cases hlt : j < n
      · have hlt' : (j : Int) < (n : Int) := by omega
        obtain ⟨b, o, ea, hba, hc⟩ := (HR.out.ext (HE.out.trans H.out.1)) (by omega)
        have x0 := hc j hlt
        have hw0 := HXW.out j hlt
        have hws := H.out.2.2.1 1 (by omega)
        generalize X j = v at *
        obtain ⟨c0, c1, c2, c3⟩ := HPX.out _ H.out.1
        have hgl : gp < wr.heap.size := World.block_lt_of_cell? wr _ c0
        have HRUN : Hid (Calls Try.prog 15 #[pgv agG q, .slice A 2 k, .slice (some ⟨wr.heap.size, 0, none⟩) 1 1] (wr.alloc (.cells #[I v] 3)) (AgR v (F 1) (wr.alloc (.cells #[I v] 3)))) :=
          ag_call ((HPM.out.ext H.out.1).ext (Ext.alloc _ _)) (H.out.2.1.ext (Ext.alloc _ _)) H.out.2.2.1 H.out.2.2.2 hw0 (ri1 wr v _)
        generalize F 1 = s at *
        have hv := wdB_iff.1 hw0
        have hs := wdB_iff.1 hws
        have hwv : IntKind.i64.wrap v = v := IntWalk.i64_in _ (by omega)
        have hwt : IntKind.i64.wrap (s + v) = s + v := IntWalk.i64_in _ (by omega)
        have HCL : Hid (∀ w', Calls Try.prog 24 #[I (s + v), I (-2147483648), I 2147483647] w' fun e w'' => e = .returned (I (sat (s + v))) ∧ Ext w' w'') := fun w' => clipP_any _ _ _ _ (by omega)
        unfold AgR at HRUN
        clear hc hw0 hws hv hs
        subst ea
        go_upto_region 12 with (go_at_call 15; (with_reducible refine HRUN.out.mono ?_); rintro e w3 ⟨A', k', B', l', F', rfl, r1, hF', hv', r2, z', hx'⟩)
        clear c0 c1 c2 c3
        obtain ⟨T, hT⟩ : ∃ T, sat (s + v) = T := ⟨_, rfl⟩
        rw [hT] at HCL hv' r2 ⊢
        clear hT
        obtain ⟨bb, hbb⟩ : ∃ bb, (T != s + v) = bb := ⟨_, rfl⟩
        rw [hbb]
        have HB4 := Lib.hid (box3r w3 (.slice A' 2 k') (.slice B' 1 l') (.bool bb) 35)
        have HX4 : Hid (Ext wr (w3.alloc (.cells #[.slice A' 2 k', .slice B' 1 l', .bool bb] 35))) := ((Ext.alloc _ _).trans hx').toAlloc
        have HR4 := Lib.hid (r1.ext (Ext.alloc w3 (.cells #[.slice A' 2 k', .slice B' 1 l', .bool bb] 35)))
        have HO4 := Lib.hid (r2.ext (Ext.alloc w3 (.cells #[.slice A' 2 k', .slice B' 1 l', .bool bb] 35)))
        obtain ⟨W4, hW4⟩ : ∃ W4, W4 = w3.alloc (.cells #[.slice A' 2 k', .slice B' 1 l', .bool bb] 35) := ⟨_, rfl⟩
        rw [← hW4] at HB4 HX4 HR4 HO4 ⊢
        clear hW4 hx' r1 r2
        generalize w3.heap.size = gr at *
        have HF' := Lib.hid hF'
        have HV' := Lib.hid hv'
        have HZ' := Lib.hid z'
        clear hF' hv' z' HRUN
        go_upto_region 14 with (go_at_call 24; (with_reducible refine (HCL.out _).mono ?_); rintro e w5 ⟨rfl, hx5⟩)
        have g0 : w5.cell? ⟨gr, 0, none⟩ = some (.slice A' 2 k') := (HB4.out.ext hx5).cell (by omega)
        have g1 : w5.cell? ⟨gr, 1, none⟩ = some (.slice B' 1 l') := (HB4.out.ext hx5).cell (by omega)
        have g2 : w5.cell? ⟨gr, 2, none⟩ = some (.bool bb) := (HB4.out.ext hx5).cell (by omega)
        have gl : gr < w5.heap.size := (HB4.out.ext hx5).lt
        obtain ⟨b2, o2, eb, hb2, hc2⟩ := (HO4.out.ext hx5) (by omega)
        have y0 := hc2 0 (by omega)
        rw [Nat.add_zero] at y0
        have HX5 := Lib.hid (HX4.out.trans hx5)
        have HR5 := Lib.hid (HR4.out.ext hx5)
        clear hc2 hx5 HB4 HX4 HR4 HCL HO4
        subst eb
        cases bb
        all_goals
          go_upto_region 16 with fail
          go_quiet (fail)
          go_wp2_with fail
          go_roundw
          case rel => exact ⟨j + 1, A', k', F', by omega, by go_num, rfl, by rw [HV'.out], H.out.1.trans (HX5.out.trans (Ext.drewN _ _)), HR5.out.ext (Ext.drewN _ _), HF'.out, HZ'.out⟩
          case measure => simp [intOf]; omega
      · obtain rfl : j = n := by omega
        go_wp2_with fail
        go_ret
        exact ⟨rfl, HE.out.trans H.out.1⟩
end Go.Proofs.Ytommlhdiefoocaa
