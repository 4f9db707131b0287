/- The fixed-point machine: law CodeRounds: what a shifted product loses. -/
import Derived.Test.YtommlhdiefoocaaKdk
import Derived.Test.YtommlhdiefoocaaKdl
import Derived.Test.YtommlhdiefoocaaShelf
import Derived.Test.YtommlhdiefoocaaKnc
namespace Go.Proofs.Ytommlhdiefoocaa
open Go Go.RowKit

set_option maxRecDepth 100000 in
set_option maxHeartbeats 1000000 in
theorem wide_any {a b : Int} (w : World) (h1 : -2147483648 ≤ a) (h2 : a ≤ 2147483647) (h3 : 1 ≤ b) (h4 : b ≤ 1073741824) :
    Calls Try.prog 23 #[I a, I b] w fun e w' => e = .returned (.tuple #[.int .u64 0, .int .u64 (max a (-a) * b), .bool (decide (a < 0))]) ∧ Ext w w' := by
  obtain ⟨x, hx⟩ : ∃ x : Nat, (x : Int) = max a (-a) := ⟨(max a (-a)).toNat, by omega⟩
  obtain ⟨y, hy⟩ : ∃ y : Nat, (y : Int) = b := ⟨b.toNat, by omega⟩
  have hxy : x * y ≤ 2305843009213693952 := by
    have := Nat.mul_le_mul (show x ≤ 2147483648 by omega) (show y ≤ 1073741824 by omega)
    omega
  have HM : Hid (∀ w', Calls Try.prog 39 #[.int .u64 x, .int .u64 y] w' fun e w'' => e = .returned (.tuple #[.int .u64 0, .int .u64 ((x * y : Nat) : Int)]) ∧ w'' = w') := fun w' => by
    have := Try.bits_Mul64 x y (by omega) (by omega) w'
    rwa [Nat.div_eq_of_lt (by omega), Nat.mod_eq_of_lt (by omega)] at this
  have hv : max a (-a) * b = ((x * y : Nat) : Int) := by rw [← hx, ← hy]; exact (Int.natCast_mul x y).symm
  rw [hv]
  clear hv
  have nb : IntKind.i64.wrap (-b) = -b := IntWalk.i64_in _ (by omega)
  have na : IntKind.i64.wrap (-a) = -a := IntWalk.i64_in _ (by omega)
  have hb0 : decide (b < 0) = false := by simp; omega
  have ub : IntKind.u64.wrap (max b (-b)) = (y : Int) := by rw [show max b (-b) = y by omega, IntKind.wrap_u64]; omega
  have ua : IntKind.u64.wrap (max a (-a)) = (x : Int) := by rw [← hx, IntKind.wrap_u64]; omega
  have hyn : ((y : Int) != 0) = true := by simp; omega
  generalize x * y = z at *
  by_cases ha : a < 0
  · have hxn : ((x : Int) != 0) = true := by simp; omega
    have HV := Lib.hid (show decide (a < 0) = true by simpa using ha)
    rw [HV.out]
    clear hx hy hxy h1 h2 h3 h4 HV
    go_enter Try.func23, Try.ntmps23
    go_wp2_with (go_at_call 39; (with_reducible refine (HM.out _).mono ?_); rintro e w1 ⟨rfl, rfl⟩)
    go_ret3
    exact ⟨rfl, Ext.refl _⟩
  · have HV := Lib.hid (show decide (a < 0) = false by simpa using ha)
    rw [HV.out]
    clear hx hy hxy h1 h2 h3 h4 HV
    go_enter Try.func23, Try.ntmps23
    go_wp2_with (go_at_call 39; (with_reducible refine (HM.out _).mono ?_); rintro e w1 ⟨rfl, rfl⟩)
    go_ret3
    exact ⟨rfl, Ext.refl _⟩
theorem sh_fl {P n : Int} (hP1 : -4611686018427387904 ≤ P) (hP2 : P ≤ 4611686018427387904) (h0 : 0 ≤ n) (h1 : n ≤ 30) :
    (sat (shC P (-n)) != shC P (-n)) = true ∧ sat (shC P (-n)) = 2147483647 ∧ 2147483647 < P / 2 ^ n.toNat ∨ (sat (shC P (-n)) != shC P (-n)) = true ∧ sat (shC P (-n)) = -2147483648 ∧ P / 2 ^ n.toNat < -2147483648 ∨
    (sat (shC P (-n)) != shC P (-n)) = false ∧ sat (shC P (-n)) = P / 2 ^ n.toNat ∧ -2147483648 ≤ P / 2 ^ n.toNat ∧ P / 2 ^ n.toNat ≤ 2147483647 := by
  have key : shC P (-n) = P / 2 ^ n.toNat ∨ n = 0 ∧ shC P (-n) = kcl P (-4294967296) 4294967296 := by
    unfold shC
    by_cases h : n = 0
    · subst h; right; exact ⟨rfl, by rw [if_neg (by omega)]; show _ * 2 ^ 0 = _; omega⟩
    · left; rw [if_pos (by omega), Int.neg_neg]
  generalize hE : shC P (-n) = E at *
  rcases key with e | ⟨e0, e⟩
  · rw [← e]
    unfold sat kcl
    by_cases l1 : E < -2147483648
    · right; left; rw [if_pos l1]; exact ⟨by simp; omega, rfl, l1⟩
    · by_cases l2 : 2147483647 < E
      · left; rw [if_neg l1, if_pos l2]; exact ⟨by simp; omega, rfl, l2⟩
      · right; right; rw [if_neg l1, if_neg l2]; exact ⟨by simp, rfl, by omega, by omega⟩
  · subst e0
    have hp : P / 2 ^ (0 : Int).toNat = P := by show P / 1 = P; omega
    rw [hp]
    have hk : kcl P (-4294967296) 4294967296 = P ∨ kcl P (-4294967296) 4294967296 = -4294967296 ∧ P < -4294967296 ∨ kcl P (-4294967296) 4294967296 = 4294967296 ∧ 4294967296 < P := by
      unfold kcl
      by_cases q1 : P < -4294967296
      · right; left; rw [if_pos q1]; exact ⟨rfl, q1⟩
      · by_cases q2 : 4294967296 < P
        · right; right; rw [if_neg q1, if_pos q2]; exact ⟨rfl, q2⟩
        · left; rw [if_neg q1, if_neg q2]
    rw [e]
    generalize kcl P (-4294967296) 4294967296 = E' at *
    unfold sat kcl
    by_cases l1 : E' < -2147483648
    · right; left; rw [if_pos l1]; exact ⟨by simp; omega, rfl, by omega⟩
    · by_cases l2 : 2147483647 < E'
      · left; rw [if_neg l1, if_pos l2]; exact ⟨by simp; omega, rfl, by omega⟩
      · right; right; rw [if_neg l1, if_neg l2]; exact ⟨by simp, by omega, by omega, by omega⟩
def rdG (a b k : Int) : Pgm := ⟨0, fun _ => ⟨0, 0, 0⟩, 3, fun i => if i = 0 then a else if i = 1 then b else 0, 1, fun _ => ⟨7, 2, 0, 1, k, 0, 0⟩, 1, fun _ => 2⟩
theorem rdG_ok {a b k : Int} (ha : wdB a = true) (hb : wdB b = true) (h1 : shB k = true) : chP (rdG a b k) = 0 := by
  refine chP_of ⟨by show 0 ≤ 16; omega, by show 3 ≤ 192; omega, by show 1 ≤ 256; omega, by show 1 ≤ 16; omega, fun i hi => absurd hi (by show ¬ i < 0; omega), fun i hi => ?_, fun i hi => ?_, fun i hi => ?_⟩
  · show wdB (if i = 0 then a else if i = 1 then b else 0) = true
    split
    · exact ha
    · split
      · exact hb
      · rfl
  · show insE 0 3 ⟨7, 2, 0, 1, k, 0, 0⟩ = 0
    rw [insE_F]; simp only [h1]; cases (k == 0) <;> decide
  · show ixB (3 : Nat) 2 = true
    decide
/-- What the law asks of its run. -/
def RdR (v : Int) (ov : Bool) (w : World) (e : Ending) (w' : World) : Prop := ∃ A k B l, e = .returned (.tuple #[.agg #[.slice A 3 k, .slice B 1 l, .bool ov], .nilIface]) ∧ Ri w' B 1 (fun _ => v) ∧ Ext w w'
theorem rd_call {w : World} {q : Pp} {a b k : Int} (d : Pm w (rdG a b k) q) (ha : wdB a = true) (hb : wdB b = true) (hk : shB k = true) :
    Calls Try.prog 15 #[pgv (rdG a b k) q, .slice q.AC (rdG a b k).nc q.cC, .slice none 0 0] w (RdR (sat (shC (a * b) k)) (sat (shC (a * b) k) != shC (a * b) k) w) := by
  have hc := rdG_ok ha hb hk
  have hd : daE (rdG a b k) (rdG a b k).nc (rdG a b k).C 0 (fun _ => 0) = 0 := daE_of (G := rdG a b k) (chP_ok hc).wd (fun i hi => absurd hi (by show ¬ i < 0; omega))
  refine (Run_ok (cA := q.cC) (cB := 0) d hc d.init Ri.none_ d.nC hd).mono fun e w' hr => ?_
  obtain ⟨A', k', B, l, he, _, r2, _, _, _, _, _, hx⟩ := hr
  exact ⟨A', k', B, l, he, r2.congr (fun i hi => rfl), hx⟩
def rdQ (g : Nat) : Pp := ⟨none, 0, some ⟨g, 0, none⟩, 3, some ⟨g + 1 + 1, 0, none⟩, 1, some ⟨g + 1, 0, none⟩, 1⟩
theorem rd_world (wd : World) (a b k : Int) : Pm ((((wd.alloc (.cells #[I a, I b, I 0] 3)).alloc (.cells #[I 2] 3)).alloc (.cells #[I 7, I 2, I 0, I 1, I k, I 0, I 0] 52)).alloc (.cells #[.slice none 0 0, .slice (some ⟨wd.heap.size, 0, none⟩) 3 3, .slice (some ⟨wd.heap.size + 1 + 1, 0, none⟩) 1 1, .slice (some ⟨wd.heap.size + 1, 0, none⟩) 1 1] 26)) (rdG a b k) (rdQ wd.heap.size) ∧ Px ((((wd.alloc (.cells #[I a, I b, I 0] 3)).alloc (.cells #[I 2] 3)).alloc (.cells #[I 7, I 2, I 0, I 1, I k, I 0, I 0] 52)).alloc (.cells #[.slice none 0 0, .slice (some ⟨wd.heap.size, 0, none⟩) 3 3, .slice (some ⟨wd.heap.size + 1 + 1, 0, none⟩) 1 1, .slice (some ⟨wd.heap.size + 1, 0, none⟩) 1 1] 26)) (wd.heap.size + 1 + 1 + 1) (rdG a b k) (rdQ wd.heap.size) ∧ Ext wd ((((wd.alloc (.cells #[I a, I b, I 0] 3)).alloc (.cells #[I 2] 3)).alloc (.cells #[I 7, I 2, I 0, I 1, I k, I 0, I 0] 52)).alloc (.cells #[.slice none 0 0, .slice (some ⟨wd.heap.size, 0, none⟩) 3 3, .slice (some ⟨wd.heap.size + 1 + 1, 0, none⟩) 1 1, .slice (some ⟨wd.heap.size + 1, 0, none⟩) 1 1] 26)) := by
  refine ⟨⟨fun h => absurd h (by show ¬ 0 < 0; omega), ?_, ?_, ?_, by show 0 ≤ _; omega, by show 3 ≤ maxLen; unfold maxLen; omega, by show 1 ≤ maxLen; unfold maxLen; omega, by show 1 ≤ maxLen; unfold maxLen; omega, fun e => (by cases e), Nat.le_refl _⟩, ?_, (((Ext.alloc _ _).toAlloc).toAlloc).toAlloc⟩
  · refine (((ri_new (n := 3) (f := fun i => if i = 0 then a else if i = 1 then b else 0) rfl fun i hi => ?_).ext (Ext.alloc _ _)).ext (Ext.alloc _ _)).ext (Ext.alloc _ _)
    have : i = 0 ∨ i = 1 ∨ i = 2 := by omega
    rcases this with h | h | h <;> subst h <;> rfl
  · refine (rx_new (n := 1) (X := fun _ => ⟨7, 2, 0, 1, k, 0, 0⟩) (by simp) fun i hi => ?_).ext (Ext.alloc _ _)
    have : i = 0 := by omega
    subst this
    exact ⟨rfl, rfl, rfl, rfl, rfl, rfl, rfl⟩
  · refine ((ri_new (n := 1) (f := fun _ => 2) (by simp) fun i hi => ?_).ext (Ext.alloc _ _)).ext (Ext.alloc _ _)
    have : i = 0 := by omega
    subst this
    rfl
  · have e : wd.heap.size + 1 + 1 + 1 = (((wd.alloc (.cells #[I a, I b, I 0] 3)).alloc (.cells #[I 2] 3)).alloc (.cells #[I 7, I 2, I 0, I 1, I k, I 0, I 0] 52)).heap.size := by simp
    exact ⟨new_cell _ _ _ e rfl, new_cell _ _ _ e rfl, new_cell _ _ _ e rfl, new_cell _ _ _ e rfl⟩

set_option maxRecDepth 100000 in
set_option maxHeartbeats 4000000 in
theorem rounds_any {W : World} {a b x : Int} (ha : -2147483648 ≤ a ∧ a ≤ 2147483647) (hb : -2147483648 ≤ b ∧ b ≤ 2147483647) (hx : 0 ≤ x ∧ x ≤ 255) :
    Calls Try.prog 7 #[.int .i32 a, .int .i32 b, .int .u8 x] W fun e w' => e = .returned (.bool true) ∧ Ext W w' := by
  have HW := Lib.hid awakeP_any
  have hn : 0 ≤ x % 31 ∧ x % 31 ≤ 30 := by omega
  have hP := wd_mul (x := a) (y := b) (wdB_iff.2 ha) (wdB_iff.2 hb)
  have wa : IntKind.i64.wrap a = a := IntWalk.i64_in _ (by omega)
  have wb : IntKind.i64.wrap b = b := IntWalk.i64_in _ (by omega)
  have wn : IntKind.i64.wrap (-(x % 31)) = -(x % 31) := IntWalk.i64_in _ (by omega)
  have wp : IntKind.i64.wrap (a * b) = a * b := IntWalk.i64_in _ (by omega)
  go_enter Try.func7, Try.ntmps7
  go_upto_region 4 with (go_at_call 10; (with_reducible refine (HW.out _).mono ?_); rintro e wd ⟨rfl, hxa⟩; have HEA := Lib.hid hxa; clear hxa)
  generalize x % 31 = n at *
  go_upto_region 5 with fail
  have HOW := Lib.hid (rd_world wd a b (-n))
  obtain ⟨W5, hW5⟩ : ∃ W5, W5 = ((((wd.alloc (.cells #[I a, I b, I 0] 3)).alloc (.cells #[I 2] 3)).alloc (.cells #[I 7, I 2, I 0, I 1, I (-n), I 0, I 0] 52)).alloc (.cells #[.slice none 0 0, .slice (some ⟨wd.heap.size, 0, none⟩) 3 3, .slice (some ⟨wd.heap.size + 1 + 1, 0, none⟩) 1 1, .slice (some ⟨wd.heap.size + 1, 0, none⟩) 1 1] 26)) := ⟨_, rfl⟩
  rw [← hW5] at HOW ⊢
  clear hW5
  have HE := Lib.hid (HEA.out.trans HOW.out.2.2)
  obtain ⟨Q, hQ⟩ : ∃ Q, rdQ wd.heap.size = Q := ⟨_, rfl⟩
  rw [hQ] at HOW
  clear hQ
  obtain ⟨c0, c1, c2, c3⟩ := HOW.out.2.1
  have HRUN := Lib.hid (rd_call HOW.out.1 (wdB_iff.2 ha) (wdB_iff.2 hb) (shB_iff.2 (by omega)))
  have HF := sh_fl hP.1 hP.2 hn.1 hn.2
  have hD1 := pow_pos n.toNat
  have hD2 := p30 hn.2
  have hm := Int.mul_ediv_add_emod (a * b) (2 ^ n.toNat)
  have hm0 := Int.emod_nonneg (a * b) (show (2 : Int) ^ n.toNat ≠ 0 by omega)
  have hm1 := Int.emod_lt_of_pos (a * b) (show (0 : Int) < 2 ^ n.toNat by omega)
  have wd1 : IntKind.i64.wrap (2 ^ n.toNat) = 2 ^ n.toNat := IntWalk.i64_in _ (by omega)
  generalize a * b % 2 ^ n.toNat = rm at *
  unfold RdR at HRUN
  clear HOW
  generalize sat (shC (a * b) (-n)) = v at *
  generalize (v != shC (a * b) (-n)) = ov at *
  go_upto_region 6 with (go_at_call 15; (with_reducible refine HRUN.out.mono ?_); rintro e w3 ⟨A', k', B', l', rfl, r2, hx'⟩)
  clear c0 c1 c2 c3
  have HB4 := Lib.hid (box3r w3 (.slice A' 3 k') (.slice B' 1 l') (.bool ov) 35)
  have HO4 := Lib.hid (r2.ext (Ext.alloc w3 (.cells #[.slice A' 3 k', .slice B' 1 l', .bool ov] 35)))
  have HX4 : Hid (Ext W5 (w3.alloc (.cells #[.slice A' 3 k', .slice B' 1 l', .bool ov] 35))) := hx'.toAlloc
  obtain ⟨W4, hW4⟩ : ∃ W4, W4 = w3.alloc (.cells #[.slice A' 3 k', .slice B' 1 l', .bool ov] 35) := ⟨_, rfl⟩
  rw [← hW4] at HB4 HO4 HX4 ⊢
  clear hW4 hx' r2 HRUN
  generalize w3.heap.size = gr at *
  have g1 : W4.cell? ⟨gr, 1, none⟩ = some (.slice B' 1 l') := HB4.out.cell (by omega)
  have g2 : W4.cell? ⟨gr, 2, none⟩ = some (.bool ov) := HB4.out.cell (by omega)
  have gl : gr < W4.heap.size := HB4.out.lt
  obtain ⟨b2, o2, eb, hb2, hc2⟩ := HO4.out (by omega)
  have y0 : W4.cell? ⟨b2, o2, none⟩ = some (I v) := hc2 0 (by omega)
  have HFE := Lib.hid (HE.out.trans HX4.out)
  subst eb
  clear hc2 HB4 HO4 HX4 HE HW
  rcases HF with ⟨rfl, hv, hf⟩ | ⟨rfl, hv, hf⟩ | ⟨rfl, hv, hf1, hf2⟩
  · subst hv
    go_wp2_with fail
    go_ret
    exact ⟨by first | rfl | simp_all, HFE.out⟩
  · subst hv
    go_wp2_with fail
    go_ret
    exact ⟨by first | rfl | simp_all, HFE.out⟩
  · rw [← hv] at hf1 hf2 hm
    have HWI : Hid (∀ w', Calls Try.prog 23 #[I v, I (2 ^ n.toNat)] w' fun e w'' => e = .returned (.tuple #[.int .u64 0, .int .u64 (max v (-v) * 2 ^ n.toNat), .bool (decide (v < 0))]) ∧ Ext w' w'') := fun w' => wide_any w' hf1 hf2 hD1 hD2
    have hz : (v < 0 ∧ max v (-v) * 2 ^ n.toNat = -(v * 2 ^ n.toNat) ∨ 0 ≤ v ∧ max v (-v) * 2 ^ n.toNat = v * 2 ^ n.toNat) := by
      by_cases h : v < 0
      · left; exact ⟨h, by rw [show max v (-v) = -v by omega, Int.neg_mul]⟩
      · right; exact ⟨by omega, by rw [show max v (-v) = v by omega]⟩
    have hbd := mul_bd (x := v) (p := 2 ^ n.toNat) (B := 2147483648) (Q := 1073741824) (by omega) (by omega) (by omega) hD2 (by omega)
    rw [Int.mul_comm] at hm
    generalize max v (-v) * 2 ^ n.toNat = lo at *
    generalize v * 2 ^ n.toNat = t at *
    have wl : IntKind.i64.wrap lo = lo := IntWalk.i64_in _ (by omega)
    have hlo : decide (4611686018427387904 < lo) = false := by simp; omega
    generalize hPP : a * b = P at *
    have hle : decide (t ≤ P) = true := by simp; omega
    have wdif : IntKind.i64.wrap (P - t) = P - t := IntWalk.i64_in _ (by omega)
    have hlt : decide (P - t < 2 ^ n.toNat) = true := by simp; omega
    have hn30 := hn.2
    have hn00 := hn.1
    clear hv hf1 hf2 hm hm0 hm1 hD2 ha hb hx hP
    rcases hz with ⟨hz1, hz2⟩ | ⟨hz1, hz2⟩
    · have hneg : decide (v < 0) = true := by simpa using hz1
      rw [hneg] at HWI
      have wng : IntKind.i64.wrap (-lo) = t := by rw [show -lo = t by omega]; exact IntWalk.i64_in _ (by omega)
      clear hz1 hz2 hneg
      go_wp2_with (go_at_call 23; (with_reducible refine (HWI.out _).mono ?_); rintro e w6 ⟨rfl, hx6⟩)
      go_ret
      exact ⟨by first | rfl | simp_all, HFE.out.trans hx6⟩
    · have hneg : decide (v < 0) = false := by simp; omega
      rw [hneg] at HWI
      rw [hz2] at HWI wl hlo
      clear hz1 hz2 hneg
      go_wp2_with (go_at_call 23; (with_reducible refine (HWI.out _).mono ?_); rintro e w6 ⟨rfl, hx6⟩)
      go_ret
      exact ⟨by first | rfl | simp_all, HFE.out.trans hx6⟩
end Go.Proofs.Ytommlhdiefoocaa
