/- Numbers as ints. -/
import Derived.Test.YtkocmdpfknoiaaaDoorRefhj
import Derived.Test.YtkocmdpfknoiaaaDoorMdz
import Derived.Test.YtkocmdpfknoiaaaDoorDyy
namespace Go.Proofs.YtkocmdpfknoiaaaDoor
open Go.RowKit

def ivD (d : DV) : Int := if d.neg then -(d.m : Int) else (d.m : Int)
def isI (d : DV) : Bool := decide (d.den = 0 ∧ -9223372036854775808 ≤ ivD d ∧ ivD d ≤ 9223372036854775807)
/-- What the reference's Int returns. -/
def RInt (d : DV) (w : World) (e : Ending) (w' : World) : Prop := ∃ z : Int, e = .returned (.tuple #[I z, .bool (isI d)]) ∧ (isI d = true → z = ivD d) ∧ Ext w w'

theorem m_le2 {m : Nat} (h : len m ≤ 2) : m < 18446744073709551616 := Nat.lt_of_lt_of_le (lt_pB_len m) (Nat.le_trans (pB_le h) (by unfold pB; decide))
theorem m_gt2 {m : Nat} (h : ¬ len m ≤ 2) : 18446744073709551616 ≤ m := Nat.le_trans (by unfold pB; decide) (pB_le_of_lt_len (n := 2) (by omega))
theorem pre_step (m i : Nat) : m / pB (i + 1) * 4294967296 + dg m i = m / pB i := by
  unfold dg
  have h := Nat.div_add_mod (m / pB i) 4294967296
  rw [Nat.div_div_eq_div_mul, Nat.mul_comm (pB i), ← pB_succ] at h
  rw [Nat.mul_comm]
  exact h

set_option maxRecDepth 100000 in
set_option maxHeartbeats 1000000 in
theorem rint_any {w : World} {neg : Bool} {A A' : Option Addr} {n c c' : Nat} {den : Int} {d : DV} (h : Dy w neg A n c den d A' c') : Calls Tryd.prog 35 #[dv neg A n c den] w (RInt d w) := by
  have H := Lib.hid h; clear h
  have hl1 := H.out.lim
  have HN : Hid (∀ w', Ext w w' → Calls Tryd.prog 30 #[dv neg A n c den] w' (NumRes (dv d.neg A' (len d.m) c' d.den) w')) := H.out.norm
  by_cases hd : d.den = 0
  · by_cases hl : len d.m ≤ 2
    · have HA := Lib.hid H.out.rd
      have hm := m_le2 hl
      have hi : isI d = decide (if d.neg then d.m ≤ 9223372036854775808 else d.m < 9223372036854775808) := by
        unfold isI ivD
        congr 1
        cases d.neg <;> simp [hd] <;> omega
      have hv : ivD d = if d.neg then -(d.m : Int) else (d.m : Int) := rfl
      have hz : d.neg = true → d.m ≠ 0 := fun h1 h2 => by have := (H.out.wf.1 h2).1; rw [h1] at this; cases this
      unfold RInt
      rw [hd] at HN
      generalize isI d = P at *
      generalize ivD d = V at *
      obtain ⟨m, hme⟩ : ∃ m, d.m = m := ⟨_, rfl⟩
      rw [hme] at HN HA hm hi hv hl1 hl hz
      generalize d.neg = ng at *
      have HM0 : Hid (m / pB (len m) = 0) := Nat.div_eq_of_lt (lt_pB_len m)
      generalize len m = L at *
      have hl2 : ¬ (2 : Int) < (L : Int) := by omega
      clear H hd hme hl1
      go_enter Tryd.func35, Tryd.ntmps35
      go_wp2_with (go_at_call 30; refine (HN.out _ (Ext.alloc _ _)).mono ?_; rintro e w1 ⟨rfl, hx⟩; have hb := (Bx.new w (.bool neg) (.slice A n c) (I den) 37).ext hx; have HBX := Lib.hid hb; obtain ⟨⟨k0, k1, k2⟩, hz⟩ := hb; have HX := Lib.hid ((Ext.alloc _ _).trans hx); clear hx)
      go_loopw [4, 5] (fun s4 s5 wr => Hid (Ext w wr) ∧ Hid (Bx wr w.heap.size (.bool ng) (.slice A' L c') (I ((0 : Nat) : Int))) ∧ ∃ i p : Nat, i ≤ L ∧ s5 = I ((i : Int) - 1) ∧ s4 = U8 p ∧ Hid (m / pB i = p)) (fun _ s5 _ => (intOf s5 + 1).toNat)
      case atStart => exact ⟨ext_set3 HX.out (Nat.le_refl _) _ _ _, HBX.out.set3 _ _ _, L, 0, Nat.le_refl _, rfl, rfl, HM0⟩
      case round =>
        clear HBX HX HM0
        obtain ⟨hX, hB, i, p, hiL, rfl, rfl, hp⟩ := hrel
        obtain ⟨⟨q0, q1, q2⟩, qz⟩ := hB.out
        cases i with
        | zero =>
          have hpm : p = m := by have := hp.out; rw [pB_zero, Nat.div_one] at this; exact this.symm
          subst hpm
          have i0 : ¬ (0 : Int) ≤ ((0 : Nat) : Int) - 1 := by omega
          cases ng with
          | true =>
            have hp0 := hz rfl
            by_cases hb : p ≤ 9223372036854775808
            · have hP : P = true := by rw [hi]; simpa using hb
              have hV : V = -(p : Int) := hv
              have b1 : ¬ (9223372036854775808 : Int) < (p : Int) := by omega
              have e1 : ((p : Int) - 1) % 18446744073709551616 = (p : Int) - 1 := by omega
              have HPV : Hid (P = true ∧ V = -(p : Int)) := ⟨hP, hV⟩
              clear hi hv hP hV
              go_wp2
              go_ret2
              exact ⟨-((p : Int) - 1) - 1, by rw [HPV.out.1]; rfl, fun _ => by rw [HPV.out.2]; omega, hX.out⟩
            · have hP : P = false := by rw [hi]; simpa using hb
              have b1 : (9223372036854775808 : Int) < (p : Int) := by omega
              have HPV := Lib.hid hP
              clear hi hv hP
              go_wp2
              go_ret2
              exact ⟨0, by rw [HPV.out]; rfl, (fun h => by rw [HPV.out] at h; cases h), hX.out⟩
          | false =>
            have hP : P = decide (p < 9223372036854775808) := by rw [hi]; rfl
            have hV : V = (p : Int) := hv
            have HPV : Hid (P = decide (p < 9223372036854775808) ∧ V = (p : Int)) := ⟨hP, hV⟩
            clear hi hv hP hV hz
            go_wp2
            go_ret2
            refine ⟨wrap64 (p : Int), ?_, fun h => ?_, hX.out⟩
            · rw [HPV.out.1, show decide (p < 9223372036854775808) = decide ((p : Int) < 9223372036854775808) from decide_eq_decide.2 (by omega)]; rfl
            · rw [HPV.out.1] at h
              have h2 := of_decide_eq_true h
              rw [HPV.out.2]; unfold wrap64; omega
        | succ i =>
          obtain ⟨b2, o2', rfl, hb2, c2⟩ := (HA.out.ext hX.out).at_ (k := i) (by omega)
          have hxl := dg_lt m i
          have hps := pre_step m i
          rw [hp.out] at hps
          obtain ⟨x, hxe⟩ : ∃ x, dg m i = x := ⟨_, rfl⟩
          rw [hxe] at c2 hxl hps
          have hpl : p < 4294967296 := by
            rw [← hp.out, Nat.div_lt_iff_lt_mul (by unfold pB; exact Nat.pow_pos (by decide))]
            have : pB 1 ≤ pB (i + 1) := pB_le (by omega)
            have h1 : pB 1 = 4294967296 := by unfold pB; rw [Nat.pow_one]
            rw [h1] at this
            omega
          have eor : bits BinOp.or IntKind.u64 ((p : Int) * 4294967296) (x : Int) = ((p * 4294967296 + x : Nat) : Int) := by
            rw [show (p : Int) * 4294967296 = ((p * 4294967296 : Nat) : Int) by omega, or_nat64 (by omega) (by omega)]
            have h := or_add (a := x) (b := p) (p := 32) (by omega)
            rw [Nat.or_comm, show (4294967296 : Nat) = 2 ^ 32 by decide, h]; omega
          obtain ⟨t, ht⟩ : ∃ t, p * 4294967296 + x = t := ⟨_, rfl⟩
          rw [ht] at eor hps
          have e4 : (p : Int) * 4294967296 % 18446744073709551616 = (p : Int) * 4294967296 := by omega
          have ei : ((i + 1 : Nat) : Int) - 1 = (i : Int) := by omega
          have i1 : (0 : Int) ≤ (i : Int) := by omega
          have i2 : (i : Int) < (L : Int) := by omega
          have HPS : Hid (m / pB i = t) := hps.symm
          clear hps hxe ht
          go_wp2
          go_roundw
          case rel => exact ⟨hX, hB, i, t, by omega, by go_num, rfl, HPS⟩
          case measure => simp [intOf]
    · have hP : isI d = false := by
        have := m_gt2 hl
        unfold isI ivD
        cases d.neg <;> simp <;> omega
      have HP := Lib.hid hP
      have hl2 : (2 : Int) < ((len d.m : Nat) : Int) := by omega
      rw [hd] at HN
      generalize len d.m = L at *
      generalize d.neg = ng at *
      clear H hd hP
      go_enter Tryd.func35, Tryd.ntmps35
      go_wp2_with (go_at_call 30; refine (HN.out _ (Ext.alloc _ _)).mono ?_; rintro e w1 ⟨rfl, hx⟩; have hb := (Bx.new w (.bool neg) (.slice A n c) (I den) 37).ext hx; obtain ⟨⟨k0, k1, k2⟩, hz⟩ := hb; have HX := Lib.hid ((Ext.alloc _ _).trans hx); clear hx)
      go_ret2
      exact ⟨0, by rw [HP.out]; rfl, (fun h => by rw [HP.out] at h; cases h), ext_set3 HX.out (Nat.le_refl _) _ _ _⟩
  · have hP : isI d = false := by unfold isI; simp [hd]
    have HP := Lib.hid hP
    have hd2 : ((d.den : Int) != 0) = true := by simp; omega
    have hd3 : ((d.den : Int) == 0) = false := by simp; omega
    generalize len d.m = L at *
    generalize d.neg = ng at *
    generalize d.den = dn at *
    clear H hP
    go_enter Tryd.func35, Tryd.ntmps35
    go_wp2_with (go_at_call 30; refine (HN.out _ (Ext.alloc _ _)).mono ?_; rintro e w1 ⟨rfl, hx⟩; have hb := (Bx.new w (.bool neg) (.slice A n c) (I den) 37).ext hx; obtain ⟨⟨k0, k1, k2⟩, hz⟩ := hb; have HX := Lib.hid ((Ext.alloc _ _).trans hx); clear hx)
    go_ret2
    exact ⟨0, by rw [HP.out]; rfl, (fun h => by rw [HP.out] at h; cases h), ext_set3 HX.out (Nat.le_refl _) _ _ _⟩

theorem sgn_zero_iff' {r : Rat} (h : sgn r = 0) : r = 0 := by
  unfold sgn at h
  split at h
  · exact absurd h (by decide)
  · split at h
    · exact absurd h (by decide)
    · grind
theorem cmp_zero' {a b : DV} (ha : a.ok) (hb : b.ok) (h : cmpD a b = 0) : a = b := by
  rw [cmpD_sgn ha hb] at h
  have := sgn_zero_iff' h
  exact DV.uniq ha hb (by grind)
def nIw (m i : Nat) : Int := wrap64 ((m % pB i : Nat) : Int)
theorem nIw_zero (m : Nat) : nIw m 0 = 0 := by unfold nIw; rw [pB_zero, Nat.mod_one]; unfold wrap64; simp

theorem w64i (v : BitVec 64) : IntKind.i64.wrap (v.toNat : Int) = wrap64 (v.toNat : Int) := by
  rw [IntKind.wrap_i64]; unfold wrap64; exact rfl
theorem or_i64 {a b : Nat} (ha : a < 18446744073709551616) (hb : b < 18446744073709551616) : bits .or .i64 (wrap64 (a : Int)) (wrap64 (b : Int)) = wrap64 ((a ||| b : Nat) : Int) := by
  have ho : ∀ n : Nat, n < 18446744073709551616 → (BitVec.ofInt 64 (wrap64 (n : Int))).toNat = n := by
    intro n hn
    rw [BitVec.toNat_ofInt]
    unfold wrap64
    omega
  have hb' : ∀ x y : Int, bits .or .i64 x y = wrap64 ((BitVec.ofInt 64 x ||| BitVec.ofInt 64 y).toNat : Int) := fun x y => w64i _
  rw [hb', BitVec.toNat_or, ho a ha, ho b hb]
theorem mod_one (m : Nat) : m % pB 1 = dg m 0 := by
  have := mod_pB_succ m 0
  rw [pB_zero, Nat.mod_one, Nat.zero_add, Nat.mul_one, Nat.zero_add] at this
  exact this
theorem nIw_or0 (m : Nat) : bits .or .i64 (nIw m 0) ((dg m 0 : Nat) : Int) = nIw m 1 := by
  have hx := dg_lt m 0
  have h := or_i64 (a := 0) (b := dg m 0) (by decide) (by omega)
  rw [Nat.zero_or] at h
  unfold nIw
  rw [pB_zero, Nat.mod_one, mod_one, ← h]
  congr 1
  unfold wrap64; omega
theorem nIw_or1 (m : Nat) : bits .or .i64 (nIw m 1) (wrap64 (((dg m 1 : Nat) : Int) * 4294967296)) = nIw m 2 := by
  have hx := dg_lt m 0
  have hy := dg_lt m 1
  have h := or_i64 (a := dg m 0) (b := dg m 1 * 4294967296) (by omega) (by omega)
  have e := or_add (a := dg m 0) (b := dg m 1) (p := 32) hx
  rw [show (2 : Nat) ^ 32 = 4294967296 by decide] at e
  rw [e] at h
  have h2 := mod_pB_succ m 1
  rw [mod_one] at h2
  have h1 : pB 1 = 4294967296 := by unfold pB; rw [Nat.pow_one]
  rw [h1] at h2
  unfold nIw
  rw [mod_one, show 2 = 1 + 1 by rfl, h2, ← h]
  congr 1
theorem ofI_eq {d : DV} (h : d.ok) (hd : d.den = 0) : ofI (ivD d) 0 = d := by
  refine DV.uniq (ofI_ok _ _) h ?_
  unfold ofI
  rw [q_mkD _ _ (by decide)]
  unfold DV.q
  rw [hd]
  unfold ivD
  cases hn : d.neg with
  | false => simp [show decide ((d.m : Int) < 0) = false from decide_eq_false (by omega)]
  | true =>
    have hm : d.m ≠ 0 := fun e => by have := (h.1 e).1; rw [hn] at this; cases this
    simp
    rw [show decide (0 < d.m) = true from decide_eq_true (by omega)]
theorem eq_ofI {d : DV} {v : Int} (h : ofI v 0 = d) : d.den = 0 ∧ ivD d = v := by
  subst h
  have hd : (ofI v 0).den = 0 := Nat.le_zero.1 (den_le _ _ _ (by decide))
  refine ⟨hd, ?_⟩
  unfold ivD ofI
  by_cases hv : v.natAbs = 0
  · have : v = 0 := by omega
    subst this; rfl
  · rw [mkD_small (by decide), nrm0 hv]
    by_cases hn : v < 0
    · simp [hn]; omega
    · simp [hn]; omega
theorem cmp_self {d : DV} (h : d.ok) : cmpD d d = 0 := by rw [cmpD_sgn h h, show d.q - d.q = 0 by grind, sgn_zero]
/-- The comparison that Int makes. -/
theorem int_cmp {d : DV} (h : d.ok) (v : Int) (hr1 : -9223372036854775808 ≤ v) (hr2 : v ≤ 9223372036854775807) (hv : isI d = true → v = ivD d) : if isI d = true then cmpD (ofI v 0) d = 0 ∧ v = ivD d else cmpD (ofI v 0) d ≠ 0 := by
  split
  · rename_i hi
    have e := hv hi
    refine ⟨?_, e⟩
    have hd := (of_decide_eq_true hi).1
    rw [e, ofI_eq h hd]
    exact cmp_self h
  · rename_i hi
    intro h0
    obtain ⟨e1, e2⟩ := eq_ofI (cmp_zero' (ofI_ok _ _) h h0)
    exact hi (decide_eq_true ⟨e1, by omega, by omega⟩)
theorem nIw_isI {d : DV} (_h : d.ok) (hi : isI d = true) {t : Nat} (ht : min (len d.m) 2 = t) : (if d.neg then wrap64 (-(nIw d.m t)) else nIw d.m t) = ivD d := by
  obtain ⟨_, h2, h3⟩ := of_decide_eq_true hi
  have hm : d.m ≤ 9223372036854775808 := by unfold ivD at h2 h3; split at h2 <;> simp_all <;> omega
  have hl : len d.m ≤ 2 := len_le (by show d.m < 4294967296 ^ 2; omega)
  have hmt : d.m % pB t = d.m := Nat.mod_eq_of_lt (by have := lt_pB_len d.m; rw [show t = len d.m by omega]; exact this)
  unfold nIw
  rw [hmt]
  unfold ivD at *
  cases hn : d.neg with
  | true => rw [hn] at h2 h3; simp at *; unfold wrap64; omega
  | false => rw [hn] at h2 h3; simp at *; unfold wrap64; omega

end Go.Proofs.YtkocmdpfknoiaaaDoor
