/- Package scales: slices.Repeat of one int, Uniform. -/
import Derived.Test.YtgnngldlgcdnfaaGreatDoorScd
import Derived.Laws.CopyOwn
import Derived.Deep.RegionLaw
import Derived.Deep.RegionHeld3
namespace Go.Proofs.YtgnngldlgcdnfaaGreatDoor
open Go Go.RowKit
attribute [local go_sem ↓] Go.wp_at_zero Go.wp_at_succ

/-- A row of n cells, k of them written. -/
def rpR (v : Int) (n k : Nat) : List Value := List.replicate k (I v) ++ List.replicate (n - k) (I 0)
theorem rpR_len (v : Int) {n k : Nat} (h : k ≤ n) : (rpR v n k).length = n := by unfold rpR; simp; omega
theorem rpR_zero (v : Int) (n : Nat) : (rpR v n 0).toArray = madeCells #[I 0] n := by
  apply Array.ext
  · simp [rpR, size_madeCells]
  · intro i h1 h2
    simp [rpR, madeCells]
    rw [size_madeCells] at h2
    simp [Nat.mod_one]
theorem rpR_splice (v : Int) {n k m : Nat} (h : k + m ≤ n) : splice (rpR v n k) k (List.replicate m (I v)) = rpR v n (k + m) := by
  unfold splice rpR
  rw [List.take_left' (by simp)]
  rw [List.length_replicate, List.drop_append, List.length_replicate]
  rw [List.drop_eq_nil_of_le (by simp), List.nil_append, List.drop_replicate, ← List.append_assoc, List.replicate_append_replicate]
  congr 2
  omega
theorem rpR_cell {w : World} {g : Nat} {v : Int} {n k : Nat} {t : TypeId} (h : w.heap[g]? = some (.cells (rpR v n k).toArray t (0, 0))) {j : Nat} (hj : j < k) : w.cell? ⟨g, j, none⟩ = some (I v) := by
  simp [World.cell?, h, rpR, List.getElem?_append_left, hj]
def RpP (v : Int) (n : Nat) (w : World) (e : Ending) (w' : World) : Prop := ∃ g, e = .returned (.slice (some ⟨g, 0, none⟩) n n) ∧ w.heap.size ≤ g ∧ Ri w' (some ⟨g, 0, none⟩) n (fun _ => v) ∧ Ext w w'
set_option maxRecDepth 100000 in
set_option maxHeartbeats 1000000 in
theorem repeat_any {w : World} {b o c : Nat} (v : Int) (n : Nat) (hn : 0 < n) (hn2 : n ≤ 1000) (hb : b < w.heap.size) (hc : w.cell? ⟨b, o, none⟩ = some (I v)) : Calls Tryz.prog 108 #[.slice (some ⟨b, o, none⟩) 1 c, I n] w (RpP v n w) := by
  have hmk := run_make_row' 24 3 (I 0) 8 Tryz.underlying24 infoI rfl .i64 .i64 n (by omega) (by omega)
  have HM : Hid (∀ w, Calls Tryz.prog 160 #[.int .u64 1, .int .u64 n] w fun e w' => e = .returned (.tuple #[.int .u64 0, .int .u64 n]) ∧ w' = w) := fun w => by
    have := Tryz.bits_Mul 1 n (by omega) (by omega) w
    rw [show 1 * n / 18446744073709551616 = 0 by omega, show 1 * n % 18446744073709551616 = n by omega] at this
    exact this
  obtain ⟨g, hg⟩ : ∃ g, w.heap.size = g := ⟨_, rfl⟩
  obtain ⟨W2, hW2⟩ : ∃ W2, W2 = w.alloc (.cells (madeCells #[I 0] n) 3) := ⟨_, rfl⟩
  have hE2 : Ext w W2 := by rw [hW2]; exact Ext.alloc _ _
  have HH0 : Hid (W2.heap[g]? = some (.cells (rpR v n 0).toArray 3 (0, 0))) := by
    show _ = _; rw [hW2, rpR_zero, ← hg]; exact Go.Deep.blk_alloc_new w _
  have HC2 : Hid (W2.cell? ⟨b, o, none⟩ = some (I v)) := (hE2.old.1 _ _ hb).trans hc
  have HE2 := Lib.hid hE2; have HG := Lib.hid hg
  have HS1 : Hid (Int.toNat (n : Int) = n) := Int.toNat_natCast n
  have g1 : decide ((0 : Int) < 0) = false := by decide
  have g2 : decide ((9223372036854775807 : Int) < (n : Int)) = false := decide_eq_false (by omega)
  have hnn : ¬ (n : Int) < 0 := by omega
  have hbg : b ≠ g := by omega
  have HLN : Hid ((List.replicate 1 (I v)).length = Nat.min 1 n) := by show _ = _; rw [List.length_replicate]; exact (Nat.min_eq_left hn).symm
  have HPOS : Hid (∀ j u, (List.replicate 1 (I v))[j]? = some u → W2.cell? ((⟨b, o, none⟩ : Addr).add j) = some u) := fun j u hj => by
    match j, hj with
    | 0, hj =>
      injection hj with hj; subst hj
      have hadd : (⟨b, o, none⟩ : Addr).add 0 = ⟨b, o, none⟩ := by unfold Addr.add; split <;> simp_all
      rw [hadd]; exact HC2.out
    | k + 1, hj => simp at hj
  have HFIT : Hid (0 + (List.replicate 1 (I v)).length ≤ (rpR v n 0).length) := by show _ ≤ _; rw [rpR_len _ (Nat.zero_le _), List.length_replicate]; omega
  have HONE : Hid (∀ u ∈ List.replicate 1 (I v), u.oneCell' = true) := fun u hu => by rw [List.mem_replicate] at hu; rw [hu.2]; rfl
  have HSP : Hid (splice (rpR v n 0) 0 (List.replicate 1 (I v)) = rpR v n 1) := by
    have := rpR_splice v (n := n) (k := 0) (m := 1) (by omega); rwa [Nat.zero_add] at this
  have HL1 : Hid ((List.replicate 1 (I v)).length = 1) := List.length_replicate
  obtain ⟨cs, hcs⟩ : ∃ cs, cs = List.replicate 1 (I v) := ⟨_, rfl⟩
  rw [← hcs] at HLN HPOS HFIT HONE HSP HL1
  clear hcs hc hE2
  go_enter Tryz.func108, Tryz.ntmps108
  go_upto_region 7 with (go_at_call 160; (with_reducible refine (HM.out _).mono ?_); rintro e1 w1 ⟨rfl, rfl⟩)
  (try rw [hg])
  (try rw [← hW2])
  clear hW2 hmk hg g1 g2 hnn
  go_wp2_with (refine wpList_copy_splice rfl (.tmp 31) (.tmp 32) 24 24 rfl 3 Tryz.underlying24 (by kernel_rfl) (some ⟨g, 0, none⟩) (some ⟨b, o, none⟩) n n 1 c rfl rfl g 0 (rpR v n 0) 3 HH0.out cs HLN.out (fun _ => ⟨rfl, _, rfl, HPOS.out⟩) HFIT.out HONE.out g W2 (Below.refl _ _) (Nat.le_refl _) ?_; intro w7 hH7 hB7)
  rw [HL1.out]
  have HH7 : Hid (w7.heap[g]? = some (.cells (rpR v n 1).toArray 3 (0, 0))) := by show _ = _; rw [← HSP.out]; exact hH7.out
  have HX7 : Hid (Ext w1 w7) := Below.trans HE2.out (by rw [HG.out]; exact hB7)
  clear hH7 hB7 HSP HL1 HONE HFIT HPOS HLN HH0 HC2 HE2 HM
  go_loopw [8] (fun s wr => ∃ k : Nat, 0 < k ∧ k ≤ n ∧ s = I k ∧ Hid (wr.heap[g]? = some (.cells (rpR v n k).toArray 3 (0, 0))) ∧ Hid (Ext w1 wr)) (fun s _ => n - (intOf s).toNat)
  case atStart => exact ⟨1, by omega, by omega, rfl, HH7, HX7⟩
  case round =>
    clear HH7 HX7
    obtain ⟨k, hk0, hk, rfl, HH, HX⟩ := hrel
    by_cases hlt : k < n
    · have hlt' : (k : Int) < (n : Int) := by omega
      have hk1 : (k : Int) ≤ (n : Int) := by omega
      have hne : ¬ n = k := by omega
      have hne2 : ¬ k = n := by omega
      obtain ⟨m, hm⟩ : ∃ m, Nat.min k (n - k) = m := ⟨_, rfl⟩
      have hm1 : 0 < m := by rw [← hm]; show 0 < min k (n - k); omega
      have hm2 : k + m ≤ n := by rw [← hm]; show k + min k (n - k) ≤ n; omega
      have hmk : m ≤ k := by rw [← hm]; show min k (n - k) ≤ k; omega
      have HLN : Hid ((List.replicate m (I v)).length = Nat.min k (n - k)) := by show _ = _; rw [List.length_replicate, hm]
      have HPOS : Hid (∀ w' : World, w'.heap = wr.heap → ∀ j u, (List.replicate m (I v))[j]? = some u → w'.cell? ((⟨g, 0, none⟩ : Addr).add j) = some u) := fun w' hw j u hj => by
        have hjm : j < m := by
          rcases Nat.lt_or_ge j m with h | h
          · exact h
          · rw [List.getElem?_eq_none (by rw [List.length_replicate]; exact h)] at hj; cases hj
        have hu : u = I v := by rw [List.getElem?_replicate, if_pos hjm] at hj; injection hj with hj; exact hj.symm
        have hadd : (⟨g, 0, none⟩ : Addr).add j = ⟨g, 0 + j, none⟩ := by unfold Addr.add; split <;> simp_all
        have hh : w'.heap[g]? = some (.cells (rpR v n k).toArray 3 (0, 0)) := by rw [hw]; exact HH.out
        rw [hadd, Nat.zero_add, hu]; exact rpR_cell hh (by omega)
      have HFIT : Hid (k + (List.replicate m (I v)).length ≤ (rpR v n k).length) := by show _ ≤ _; rw [rpR_len _ (by omega), List.length_replicate]; omega
      have HONE : Hid (∀ u ∈ List.replicate m (I v), u.oneCell' = true) := fun u hu => by rw [List.mem_replicate] at hu; rw [hu.2]; rfl
      have HSP : Hid (splice (rpR v n k) k (List.replicate m (I v)) = rpR v n (k + m)) := rpR_splice v hm2
      have HL1 : Hid ((List.replicate m (I v)).length = m) := List.length_replicate
      obtain ⟨cs, hcs⟩ : ∃ cs, cs = List.replicate m (I v) := ⟨_, rfl⟩
      rw [← hcs] at HLN HPOS HFIT HONE HSP HL1
      clear hcs hm
      go_upto_region 9 with fail
      go_region_held3 (fun _ => True) (exact trivial) ((refine step_copy_splice (by rfl) (.tmp 41) (.tmp 44) 24 24 (by rfl) 3 Tryz.underlying24 (by kernel_rfl) (some ⟨g, k, none⟩) (some ⟨g, 0, none⟩) (n - k) (n - k) k n (by rfl) (by rfl) g k (rpR v n k) 3 HH.out cs HLN.out (fun _ => ⟨rfl, _, rfl, HPOS.out _ rfl⟩) HFIT.out HONE.out g _ (Below.refl _ _) (Nat.le_refl _) ?_; intro w9 hH9 hB9))
      have HH9 : Hid (w9.heap[g]? = some (.cells (rpR v n (k + m)).toArray 3 (0, 0))) := by show _ = _; rw [← HSP.out]; exact hH9.out
      have HX9 : Hid (Ext w1 w9) := Below.trans HX.out (Below.trans (Below.mono (Ext.drew wr) HX.out.size) (by rw [HG.out]; exact hB9))
      have hw : IntKind.i64.wrap ((k : Int) + (cs.length : Int)) = ((k + m : Nat) : Int) := by rw [HL1.out, IntWalk.i64_in _ (by omega)]; omega
      rw [hw]
      clear hw hH9 hB9
      go_wp2_with fail
      go_roundw
      case rel => exact ⟨k + m, by omega, by omega, rfl, HH9, HX9⟩
      case measure => simp [intOf]; omega
    · obtain rfl : k = n := by omega
      go_wp2_with fail
      go_ret
      exact ⟨g, rfl, by rw [HG.out]; exact Nat.le_refl _, fun _ => ⟨g, 0, rfl, ((by
        have hc := rpR_cell HH.out (j := 0) (by omega)
        exact World.block_lt_of_cell? wr _ hc) : g < wr.heap.size), fun i hi => by rw [Nat.zero_add]; exact rpR_cell HH.out hi⟩, HX.out⟩
/-! ### Uniform -/
theorem min_le (S : Nat → IV) (n : Nat) : ∀ k, 0 < k → k ≤ n → Lib.minOf (((List.range n).map fun i => chS (S i)).take k) = leS S k
  | 0, h, _ => by omega
  | 1, _, h => by
    rw [Lib.minOf_one]
    have e : ((List.range n).map fun i => chS (S i)).getD 0 0 = chS (S 0) := by
      simp [List.getD_eq_getElem?_getD, List.getElem?_map, List.getElem?_range (show 0 < n by omega)]
    rw [e]
    show _ = min 30 (chS (S 0))
    have := (chS_bd (S 0)).2; omega
  | k + 2, _, h => by
    rw [Lib.minOf_step _ (k + 1) (by omega) (by simp; omega), min_le S n (k + 1) (by omega) (by omega)]
    have e : ((List.range n).map fun i => chS (S i)).getD (k + 1) 0 = chS (S (k + 1)) := by
      simp [List.getD_eq_getElem?_getD, List.getElem?_map, List.getElem?_range (show k + 1 < n by omega)]
    rw [e]; rfl
def UnP (D : Dia) (n : Nat) (b : Nat → Bool) (S : Nat → IV) (w : World) (e : Ending) (w' : World) : Prop :=
  (chX D n b S ≠ 0 ∧ e = .returned (.tuple #[.slice none 0 0, .iface 48 (I (chX D n b S))]) ∧ Ext w w') ∨
  (chX D n b S = 0 ∧ ∃ A c, e = .returned (.tuple #[.slice A n c, .nilIface]) ∧ Ri w' A n (fun _ => leS S n) ∧ Ext w w')
set_option maxRecDepth 100000 in
set_option maxHeartbeats 4000000 in
theorem Uniform_any {w : World} {D : Dia} {p : Pl} {A : Option Addr} {n c : Nat} {R : Nat → RI} {S : Nat → IV} {b : Nat → Bool} (d : Dm w D p) (hT : Tabs w) (hn : n ≤ 1000000) (rs : RnI w A n R) (el : ∀ k, k < n → ElI w (R k) (S k) (b k)) :
    Calls Tryz.prog 44 #[dgv D p, .slice A n c] w (UnP D n b S w) := by
  obtain ⟨W1, hW1⟩ : ∃ W1, W1 = w.alloc (.cells #[.slice p.AI D.ni p.cI, .slice p.AB D.nb p.cB, .slice p.AO D.no p.cO] 26) := ⟨_, rfl⟩
  have hE : Ext w W1 := by rw [hW1]; exact Ext.alloc _ _
  have hbd : Bd W1 w.heap.size D p := by rw [hW1]; exact Bd.new _ _ _ _
  have HC : Hid (∀ w', Ext W1 w' → Calls Tryz.prog 43 #[dgv D p, .slice A n c] w' (ChP D n b S w')) := fun w' e => Choose_any (d.ext (hE.trans e)) (hT.ext (hE.trans e)) hn (rs.ext (hE.trans e)) fun k hk => (el k hk).ext (hE.trans e)
  have HE := Lib.hid hE
  obtain ⟨c0, c1, c2⟩ := hbd
  clear d hT rs el hE
  rcases Decidable.em (chX D n b S = 0) with hz | hz
  case inr =>
    have HC2 : Hid (∀ w', Ext W1 w' → Calls Tryz.prog 43 #[dgv D p, .slice A n c] w' fun e w'' => e = .returned (.tuple #[.slice none 0 0, .iface 48 (I (chX D n b S))]) ∧ Ext w' w'') := fun w' x => (HC.out w' x).mono fun e w'' hh => by
      rcases hh with ⟨_, h2⟩ | ⟨h1, _⟩
      · exact h2
      · exact absurd h1 hz
    have HZ := Lib.hid hz
    have HR : Hid (∀ (e : Ending) (w' : World), e = .returned (.tuple #[.slice none 0 0, .iface 48 (I (chX D n b S))]) → Ext w w' → UnP D n b S w e w') := fun e w' h x => .inl ⟨HZ.out, h, x⟩
    clear hz HC
    generalize chX D n b S = k at *
    go_enter Tryz.func44, Tryz.ntmps44
    go_upto_region 1 with fail
    rw [← hW1]; clear hW1
    go_wp2_with (go_at_call 43; (with_reducible refine (HC2.out _ (Ext.refl _)).mono ?_); rintro e1 w1 ⟨rfl, h1⟩)
    go_ret2
    exact HR.out _ _ rfl (HE.out.trans h1)
  case inl =>
    have HC2 : Hid (∀ w', Ext W1 w' → Calls Tryz.prog 43 #[dgv D p, .slice A n c] w' fun e w'' => ∃ g, e = .returned (.tuple #[.slice (some ⟨g, 0, none⟩) n n, .nilIface]) ∧ RnM w' w'' g n (fun i => chS (S i))) := fun w' x => (HC.out w' x).mono fun e w'' hh => by
      rcases hh with ⟨h1, _⟩ | ⟨_, h2⟩
      · exact absurd hz h1
      · exact h2
    have hnb : n ≤ 64 := by
      have hk : chk D = 0 := by
        by_cases q : chk D = 0
        · exact q
        · exfalso; unfold chX at hz; rw [if_pos q] at hz; exact q hz
      have hce : chE D.nb n b S = 0 := by unfold chX at hz; rwa [if_neg (by omega)] at hz
      have := (rgE_z (chE_z hce).1).1; have := (chk_ok hk).nb; omega
    have HR : Hid (∀ (e : Ending) (w' : World) A' c', e = .returned (.tuple #[.slice A' n c', .nilIface]) → Ri w' A' n (fun _ => leS S n) → Ext w w' → UnP D n b S w e w') := fun e w' A' c' h r x => .inr ⟨hz, A', c', h, r, x⟩
    clear hz HC
    by_cases h0 : n = 0
    · subst h0
      go_enter Tryz.func44, Tryz.ntmps44
      go_upto_region 1 with fail
      rw [← hW1]; clear hW1
      go_wp2_with (go_at_call 43; (with_reducible refine (HC2.out _ (Ext.refl _)).mono ?_); rintro e1 w1 ⟨g, rfl, rg⟩; have HX := Lib.hid rg.ext; clear rg)
      go_ret2
      exact HR.out _ _ none 0 rfl Ri.none_ (HE.out.trans HX.out)
    · have hz1 : ((n : Int) == 0) = false := by simp [h0]
      have hpos : 0 < n := by omega
      have HMN : Hid (∀ w' g, Ri w' (some ⟨g, 0, none⟩) n (fun i => chS (S i)) → Calls Tryz.prog 109 #[.slice (some ⟨g, 0, none⟩) n n] w' fun e w'' => e = .returned (I (leS S n)) ∧ w'' = w') := fun w' g r => by
        have := Tryz.slices_Min_int g 0 n n ((List.range n).map fun i => chS (S i)) w' hpos (by simp) (by omega) (fun j hj => by
          have hj' : j < n := by simpa using hj
          rw [(r.at_ hj').2]
          simp [List.getD_eq_getElem?_getD, List.getElem?_map, List.getElem?_range hj'])
        rw [min_le S n n hpos (Nat.le_refl _)] at this; exact this
      have HRP : Hid (∀ (w' : World) (v : Int), Calls Tryz.prog 108 #[.slice (some ⟨w'.heap.size, 0, none⟩) 1 1, I n] (w'.alloc (.cells #[I v] 3)) (RpP v n (w'.alloc (.cells #[I v] 3)))) := fun w' v => repeat_any v n hpos (by omega) (by simp) (by go_simp)
      clear h0
      obtain ⟨v, hv⟩ : ∃ v, leS S n = v := ⟨_, rfl⟩
      rw [hv] at HMN HR
      clear hv
      go_enter Tryz.func44, Tryz.ntmps44
      go_upto_region 1 with fail
      rw [← hW1]; clear hW1
      go_wp2_with (first
        | (go_at_call 43; (with_reducible refine (HC2.out _ (Ext.refl _)).mono ?_); rintro e1 w1 ⟨g, rfl, rg⟩; have RG := Lib.hid rg; clear rg)
        | (go_at_call 109; (with_reducible refine (HMN.out _ _ RG.out.ri).mono ?_); rintro e1 w2 ⟨rfl, rfl⟩)
        | (go_at_call 108; (with_reducible refine (HRP.out _ v).mono ?_); rintro e1 w3 ⟨g3, rfl, _, r3, h3⟩; have R3 := Lib.hid r3; have H3 := Lib.hid ((RG.out.ext.trans (Ext.alloc _ _)).trans h3); clear r3 h3))
      go_ret2
      exact HR.out _ _ _ _ rfl R3.out (HE.out.trans H3.out)
end Go.Proofs.YtgnngldlgcdnfaaGreatDoor
