import Derived.Test.YtgnngldlgcdnfaaGreatDoorQap
import Derived.Lib.ItoaNum
import Derived.Test.YtgnngldlgcdnfaaGreatDoorQal
import Derived.Test.YtgnngldlgcdnfaaGreatDoorQae
import Derived.Test.YtgnngldlgcdnfaaGreatDoorShelf
import Derived.Test.YtgnngldlgcdnfaaGreatDoorQaj
import Derived.Test.YtgnngldlgcdnfaaGreatDoorQai
import Derived.Test.YtgnngldlgcdnfaaGreatDoorQao
import Derived.Deep.DrawnRows
import Derived.WalkSmall
import Derived.Deep.RegionHeld3
import Derived.Test.YtgnngldlgcdnfaaGreatDoorQaa
import Derived.Deep.RegionWith
import Derived.Defers
import Derived.Recover
namespace Go.Proofs.YtgnngldlgcdnfaaGreatDoor
section
section
open Go Go.RowKit
end
section
open Go Go.RowKit
end
end
section
section
open Go Go.RowKit
end
section
open Go Go.RowKit
def OrdG (D : Dia) (L : List Nat) : Prop := ∀ k, k < L.length → fstI D.nb (rdy D (inL (L.take k))) = ((L.getD k 0 : Nat) : Int)
theorem getD_app_l {L K : List Nat} {k : Nat} (h : k < L.length) : (L ++ K).getD k 0 = L.getD k 0 := by
 rw [List.getD_eq_getElem?_getD, List.getD_eq_getElem?_getD, List.getElem?_append_left h]
theorem ord_g (D : Dia) : OrdG D (ordL D) := by
 have : ∀ n L, OrdG D L → OrdG D (ordF D n L) := by
  intro n
  induction n with
  | zero => intro L h; exact h
  | succ n ih =>
   intro L h
   unfold ordF
   rcases fstI_cases D.nb (rdy D (inL L)) with ⟨h1, _⟩ | ⟨j, h1, h2, h3, _⟩
   ·rw [h1, if_pos (by omega)]; exact h
   ·rw [h2, if_neg (by omega)]
    refine ih _ fun k hk => ?_
    rw [Int.toNat_natCast] at hk ⊢
    rw [List.length_append, List.length_singleton] at hk
    by_cases e : k = L.length
    ·subst e
     rw [List.take_left, h2, List.getD_eq_getElem?_getD, List.getElem?_append_right (Nat.le_refl _)]
     simp
    ·have hk' : k < L.length := by omega
     rw [List.take_append_of_le_length (by omega), getD_app_l hk']; exact h k hk'
 exact this _ _ fun k hk => by cases hk
theorem ord_rdy {D : Dia} {k : Nat} (hk : k < (ordL D).length) : (ordL D).getD k 0 < D.nb ∧ rdy D (inL ((ordL D).take k)) ((ordL D).getD k 0) = true ∧ ∀ i, i < (ordL D).getD k 0 → rdy D (inL ((ordL D).take k)) i = false := by
 have h := ord_g D k hk
 rcases fstI_cases D.nb (rdy D (inL ((ordL D).take k))) with ⟨h1, _⟩ | ⟨j, h1, h2, h3, h4⟩
 ·rw [h1] at h; omega
 ·rw [h2] at h
  have e : j = (ordL D).getD k 0 := by omega
  subst e; exact ⟨h1, h3, h4⟩
theorem inL_take {L : List Nat} {k x : Nat} : inL (L.take k) x = true ↔ ∃ m, m < k ∧ m < L.length ∧ L.getD m 0 = x := by
 rw [inL_iff, List.mem_iff_getElem]
 constructor
 ·rintro ⟨m, hm, e⟩
  rw [List.length_take] at hm
  refine ⟨m, by omega, by omega, ?_⟩
  rw [List.getElem_take] at e
  rw [List.getD_eq_getElem?_getD, List.getElem?_eq_getElem (by omega)]; exact e
 ·rintro ⟨m, h1, h2, e⟩
  refine ⟨m, by rw [List.length_take]; omega, ?_⟩
  rw [List.getElem_take]
  rw [List.getD_eq_getElem?_getD, List.getElem?_eq_getElem h2] at e; exact e
theorem rdy_iff {D : Dia} {P : Nat → Bool} {i : Nat} : rdy D P i = true ↔ P i = false ∧ isD D i = false ∧ ∀ j, j < ns D i → P (sr D i j) = true ∨ isD D (sr D i j) = true := by
 unfold rdy
 rw [Bool.and_eq_true, Bool.and_eq_true, allN_iff, Bool.not_eq_true', Bool.not_eq_true']
 constructor
 ·rintro ⟨⟨a, b⟩, c⟩; exact ⟨a, b, fun j hj => by have := c j hj; rw [Bool.or_eq_true] at this; exact this⟩
 ·rintro ⟨a, b, c⟩; exact ⟨⟨a, b⟩, fun j hj => by rw [Bool.or_eq_true]; exact c j hj⟩
def posP (D : Dia) (i : Nat) : Int := fstI (ordL D).length (fun m => (ordL D).getD m 0 == i)
theorem ord_in {D : Dia} (ok : OkD D) {i : Nat} (hi : i < D.nb) (h : isD D i = false) : inL (ordL D) i = true := by
 have o := (ord_end D).1
 have hl := o.len
 have hc := ok.cyc
 unfold delL at hc
 rw [mkL_len] at hc
 cases q : inL (ordL D) i with
 | true => rfl
 | false =>
  have := cnt_eq (n := D.nb) (p := isD D) (q := fun i => !inL (ordL D) i) (fun k _ hk => by
   cases q : inL (ordL D) k with
   | false => rfl
   | true => rw [(o.lt k q).2] at hk; cases hk) (by omega) i hi (by simp [q])
  rw [h] at this; cases this
theorem posP_yes {D : Dia} (ok : OkD D) {i : Nat} (hi : i < D.nb) (h : isD D i = false) : ∃ k : Nat, k < (ordL D).length ∧ posP D i = k ∧ (ordL D).getD k 0 = i ∧ (∀ m, m < k → (ordL D).getD m 0 ≠ i) ∧ ∀ m, m < (ordL D).length → k < m → (ordL D).getD m 0 ≠ i := by
 have hin := inL_iff.1 (ord_in ok hi h)
 obtain ⟨m0, hm0, e0⟩ := List.mem_iff_getElem.1 hin
 unfold posP
 rcases fstI_cases (ordL D).length (fun m => (ordL D).getD m 0 == i) with ⟨_, hn⟩ | ⟨k, h1, h2, h3, h4⟩
 ·have := hn m0 hm0
  rw [List.getD_eq_getElem?_getD, List.getElem?_eq_getElem hm0] at this
  simp [e0] at this
 ·have e : (ordL D).getD k 0 = i := by simpa using h3
  refine ⟨k, h1, h2, e, fun m hm => by simpa using h4 m hm, fun m hm hkm e2 => ?_⟩
  have hr := (rdy_iff.1 (ord_rdy hm).2.1).1
  rw [e2, inL_take.2 ⟨k, hkm, h1, e⟩] at hr; cases hr
theorem OwL.cap {w : World} {base c : Nat} {A : Option Addr} {L : List Nat} (h : OwL w base A c L) : L.length ≤ c ∧ c ≤ maxLen := by
 obtain ⟨hl, ⟨e, h0⟩ | ⟨g, cap, cur, e, _, _, h3, h4, _⟩⟩ := h
 ·injection e with e1 e2 e3; subst e3; exact ⟨by omega, Nat.zero_le _⟩
 ·injection e with e1 e2 e3
  subst e3; exact ⟨by omega, h4⟩
end
end
section
open Go.RowKit
def bitsN (m : Nat) : Nat := if h : m = 0 then 0 else bitsN (m / 2) + 1
termination_by m
decreasing_by exact Nat.div_lt_self (by omega) (by decide)
theorem bitsN_zero : bitsN 0 = 0 := by rw [bitsN, dif_pos rfl]
theorem bitsN_pos {m : Nat} (h : m ≠ 0) : bitsN m = bitsN (m / 2) + 1 := by rw [bitsN, dif_neg h]
theorem bits_of : ∀ (n m : Nat), m < 2 ^ n → (0 < n → 2 ^ (n - 1) ≤ m) → bitsN m = n
 | 0, m, h, _ => by
  have : m = 0 := by simp at h; exact h
  subst this; exact bitsN_zero
 | n + 1, m, h, h2 => by
  have h3 := h2 (by omega)
  rw [show n + 1 - 1 = n by omega] at h3
  have hp : 0 < 2 ^ n := Nat.pow_pos (by decide)
  rw [Nat.pow_succ] at h
  rw [bitsN_pos (by omega), bits_of n (m / 2) (by omega) (fun hn => ?_)]
  rw [show n = n - 1 + 1 by omega, Nat.pow_succ] at h3
  omega
theorem bits_shift : ∀ (j m : Nat), m / 2 ^ j ≠ 0 → bitsN m = bitsN (m / 2 ^ j) + j
 | 0, m, _ => by simp
 | j + 1, m, h => by
  have e : m / 2 ^ (j + 1) = m / 2 ^ j / 2 := by rw [Nat.pow_succ, Nat.div_div_eq_div_mul]
  have h0 : m / 2 ^ j ≠ 0 := fun e0 => h (by rw [e, e0, Nat.zero_div])
  rw [bits_shift j m h0, bitsN_pos h0, e]; omega
theorem bitLen_eq {x : Nat} (h : x < 4294967296) : Lib.bitLen x = bitsN x := by
 by_cases h0 : x = 0
 ·subst h0; rw [bitsN_zero]; rfl
 ·obtain ⟨h1, h2, h3⟩ := Lib.bitLenAux_bounds 64 x (Nat.lt_trans h (by decide)) h0
  exact (bits_of _ x h3 (fun _ => h2)).symm
theorem bitsN_le {m n : Nat} (h : m < 2 ^ n) : bitsN m ≤ n := by
 rcases Nat.lt_or_ge n (bitsN m) with h1 | h1
 ·exfalso
  have h2 : m / 2 ^ n = 0 := Nat.div_eq_of_lt h
  have : ∀ j m, m / 2 ^ j = 0 → bitsN m ≤ j := by
   intro j
   induction j with
   | zero => intro m h; simp at h; subst h; rw [bitsN_zero]; exact Nat.le_refl _
   | succ j ih =>
    intro m h
    by_cases h0 : m = 0
    ·subst h0; rw [bitsN_zero]; omega
    ·rw [bitsN_pos h0]
     have := ih (m / 2) (by rw [Nat.div_div_eq_div_mul, Nat.mul_comm, ← Nat.pow_succ]; exact h)
     omega
  have := this n m h2
  omega
 ·exact h1
theorem two0 {q : Nat} (h : q < 2) (h2 : q % 2 = 0) : q = 0 := by omega
theorem two1 {q : Nat} (h : q < 2) (h2 : q % 2 = 1) : q = 1 := by omega
set_option maxRecDepth 100000 in
set_option maxHeartbeats 1000000 in
theorem bitLength_any (A : Option Addr) (m c : Nat) (w : World) (ha : Rd w A (len m) (dg m)) (hL : len m ≤ 1073741824) :
  Calls Tryz.prog 198 #[.slice A (len m) c] w fun e w' => e = .returned (I (bitsN m)) ∧ w = w' := by
 by_cases h0 : m = 0
 ·subst h0
  rw [len_zero, bitsN_zero]
  clear ha hL
  go_enter Tryz.func198, Tryz.ntmps198
  go_wp2
  go_ret
  exact ⟨rfl, rfl⟩
 ·have ht := dg_top h0
  have hlz : len m ≠ 0 := fun e => h0 (len_eq_zero.1 e)
  obtain ⟨K, hK⟩ : ∃ K, len m = K + 1 := ⟨len m - 1, by omega⟩
  rw [hK] at ha hL ht ⊢
  rw [show K + 1 - 1 = K by omega] at ht
  obtain ⟨b2, o2, rfl, hb2, c2⟩ := ha.at_ (k := K) (by omega)
  have hxl := dg_lt m K
  have hd : dg m K = m / pB K := by
   unfold dg
   rw [Nat.mod_eq_of_lt]
   have := lt_pB_len m
   rw [hK, pB_succ] at this
   rw [Nat.div_lt_iff_lt_mul (by unfold pB; exact Nat.pow_pos (by decide))]
   first | exact this | (rw [Nat.mul_comm]; exact this)
  have hb := bits_shift (32 * K) m (by rw [← pB_two, ← hd]; exact ht)
  rw [← pB_two, ← hd] at hb
  obtain ⟨x, hx⟩ : ∃ x, dg m K = x := ⟨_, rfl⟩
  rw [hx] at c2 hxl hb ht
  have hbl := bitLen_eq hxl
  have hb32 : bitsN x ≤ 32 := bitsN_le (by exact hxl)
  obtain ⟨t, hte⟩ : ∃ t, bitsN x = t := ⟨_, rfl⟩
  rw [hte] at hb hbl hb32
  have HR := Lib.hid hb
  rw [HR.out]
  have h1 : ((K : Int) + 1 == 0) = false := by simp; omega
  have HBL := Lib.hid hbl
  have e9 : (K : Int) * 32 + (t : Int) = ((t + 32 * K : Nat) : Int) := by omega
  clear hd hb hx hte hbl ha
  go_enter Tryz.func198, Tryz.ntmps198
  go_wp2_with (go_at_call 212; refine (Tryz.bits_Len32 (x : Int) _ (by omega) (by omega)).mono ?_; rw [Int.toNat_natCast, HBL.out]; rintro e w4 ⟨rfl, rfl⟩)
  go_ret
  exact ⟨rfl, rfl⟩
set_option maxRecDepth 100000 in
set_option maxHeartbeats 1000000 in
theorem bits_any {w : World} {neg : Bool} {A A' : Option Addr} {n c c' : Nat} {den : Int} {d : DV} (h : Dy w neg A n c den d A' c') : Calls Tryz.prog 165 #[dv neg A n c den] w fun e w' => e = .returned (I (bitsN d.m)) ∧ Ext w w' := by
 have H := Lib.hid h; clear h
 have hl1 := H.out.lim
 have hfd : ∀ w : World, (Instr.field 56 (dv d.neg A' (len d.m) c' d.den) 1).run Tryz.prog w = .ok (.slice A' (len d.m) c') w := fun _ => by kernel_rfl
 go_enter Tryz.func165, Tryz.ntmps165
 go_wp2_with (first
  | (go_at_call 151; (refine (H.out.num _ (Ext.alloc _ _)).mono ?_; rintro e w1 ⟨rfl, hx⟩; have HX := Lib.hid ((Ext.alloc _ _).trans hx); clear hx))
  | (go_at_call 198; (refine (bitLength_any A' d.m c' _ (H.out.rd.ext HX.out) (by omega)).mono ?_; rintro e w4 ⟨rfl, rfl⟩)))
 go_ret
 exact ⟨rfl, HX.out⟩
set_option maxRecDepth 100000 in
set_option maxHeartbeats 1000000 in
theorem rbits_any {w : World} {neg : Bool} {A A' : Option Addr} {n c c' : Nat} {den : Int} {d : DV} (h : Dy w neg A n c den d A' c') : Calls Tryz.prog 178 #[dv neg A n c den] w fun e w' => e = .returned (I (bitsN d.m)) ∧ Ext w w' := by
 have H := Lib.hid h; clear h
 have hl1 := H.out.lim
 have HA := Lib.hid H.out.rd
 have HN : Hid (∀ w', Ext w w' → Calls Tryz.prog 76 #[dv neg A n c den] w' (NumRes (dv d.neg A' (len d.m) c' d.den) w')) := H.out.norm
 obtain ⟨m, hm⟩ : ∃ m, d.m = m := ⟨_, rfl⟩
 rw [hm] at HA HN hl1 ⊢
 have HB1 : Hid (m < 2 ^ (32 * len m)) := by rw [← pB_two]; exact lt_pB_len m
 generalize len m = L at *
 generalize d.neg = ng at *
 generalize d.den = dn at *
 clear H hm
 obtain ⟨v, hv0⟩ : ∃ v, bitsN m = v := ⟨_, rfl⟩
 rw [hv0]
 have HV := Lib.hid hv0; clear hv0
 go_enter Tryz.func178, Tryz.ntmps178
 go_wp2_with (go_at_call 76; refine (HN.out _ (Ext.alloc _ _)).mono ?_; rintro e w1 ⟨rfl, hx⟩; have hb := (Bx.new w (.bool neg) (.slice A n c) (I den) 56).ext hx; have HBX := Lib.hid hb; obtain ⟨⟨k0, k1, k2⟩, hz⟩ := hb; have HX := Lib.hid ((Ext.alloc _ _).trans hx); clear hx)
 go_loopw [3] (fun s3 wr => Hid (Ext w wr) ∧ Hid (Bx wr w.heap.size (.bool ng) (.slice A' L c') (I dn)) ∧ ∃ j : Nat, j ≤ 32 * L ∧ s3 = I j ∧ Hid (m < 2 ^ j)) (fun s3 _ => (intOf s3).toNat)
 case atStart => exact ⟨ext_set3 HX.out (Nat.le_refl _) _ _ _, HBX.out.set3 _ _ _, 32 * L, Nat.le_refl _, by go_num, HB1.out⟩
 case round =>
  clear HBX HX HB1
  obtain ⟨hX, hB, j, hj, rfl, hlt⟩ := hrel
  obtain ⟨⟨q0, q1, q2⟩, qz⟩ := hB.out
  cases j with
  | zero =>
   have hm0 : m = 0 := by have := hlt.out; simp at this; exact this
   have HR : Hid (bitsN m = 0) := by show _ = _; rw [hm0, bitsN_zero]
   go_wp2
   go_ret
   exact ⟨by rw [← HV.out, HR.out]; rfl, hX.out⟩
  | succ i =>
   obtain ⟨a, hae⟩ : ∃ a, i / 32 = a := ⟨_, rfl⟩
   obtain ⟨s, hse⟩ : ∃ s, i % 32 = s := ⟨_, rfl⟩
   have haL : a < L := by omega
   have ei : ((i + 1 : Nat) : Int) - 1 = (i : Int) := by omega
   have ea : (i : Int) / 32 = (a : Int) := by omega
   have es : (i : Int) % 32 = (s : Int) := by omega
   have hs32 : s < 32 := by omega
   have hbit := bit_dg m i
   rw [hae, hse] at hbit
   obtain ⟨b2, o2', rfl, hb2, c2⟩ := (HA.out.ext hX.out).at_ haL
   have hxl := dg_lt m a
   obtain ⟨x, hxe⟩ : ∃ x, dg m a = x := ⟨_, rfl⟩
   rw [hxe] at c2 hxl hbit
   clear hxe
   obtain ⟨v, hv⟩ : ∃ v, x / 2 ^ s = v := ⟨_, rfl⟩
   have ev : (x : Int) / 2 ^ s = (v : Int) := by rw [← hv]; simp
   have hvb : v < 4294967296 := by rw [← hv]; exact Nat.lt_of_le_of_lt (Nat.div_le_self _ _) hxl
   have eb := and_one32 hvb
   rw [hv] at hbit
   rw [hbit] at eb
   have i1 : (0 : Int) ≤ (a : Int) := by omega
   have i0 : (0 : Int) < ((i + 1 : Nat) : Int) := by omega
   clear hv hbit hae hse
   have hsp := Nat.div_add_mod m (2 ^ i)
   have hml := Nat.mod_lt m (Nat.pow_pos (n := i) (show 0 < 2 by decide))
   have hq2 : m / 2 ^ i < 2 := by
    rw [Nat.div_lt_iff_lt_mul (Nat.pow_pos (by decide))]
    have := hlt.out
    rw [Nat.pow_succ] at this
    omega
   by_cases hd : m / 2 ^ i % 2 = 0
   ·rw [hd] at eb
    have hq : m / 2 ^ i = 0 := two0 hq2 hd
    have hlt' : Hid (m < 2 ^ i) := by show _ < _; rw [hq] at hsp; omega
    clear hd hq hsp hml hq2
    go_wp2
    go_roundw
    case rel => exact ⟨hX, hB, i, by omega, by go_num, hlt'⟩
    case measure => simp [intOf]; try omega
   ·have hd1 : m / 2 ^ i % 2 = 1 := by omega
    rw [hd1] at eb
    have hq : m / 2 ^ i = 1 := two1 hq2 hd1
    have HR : Hid (bitsN m = i + 1) := by
     show _ = _
     refine bits_of _ _ hlt.out (fun _ => ?_)
     rw [show i + 1 - 1 = i by omega]
     rw [hq] at hsp; omega
    clear hd hd1 hq hsp hml hq2
    go_wp2
    go_ret
    exact ⟨by rw [← HV.out, HR.out]; rfl, hX.out⟩
end
section
section
open Go Go.RowKit
def prtV (p : Prt) (x : Int) : DV := shiftD (ofI x 0) (-p.fr)
def plc (D : Dia) (i : Nat) : Nat := cnt i (isD D)
def lng (x : DV) : Bool := decide (4096 < max (bitsN x.m) x.den)
def v0 (D : Dia) (S : Nat → DV) : Nat → DV := fun i => if isD D i = true then S (plc D i) else DV.zero
theorem ord_uniq {D : Dia} (ok : OkD D) {k m : Nat} (hk : k < (ordL D).length) (hm : m < (ordL D).length) (e : (ordL D).getD m 0 = (ordL D).getD k 0) : m = k := by
 have hr := ord_rdy hk
 have hd : isD D ((ordL D).getD k 0) = false := (rdy_iff.1 hr.2.1).2.1
 obtain ⟨t, h1, _, h3, h4, h5⟩ := posP_yes ok hr.1 hd
 have a : ∀ x, x < (ordL D).length → (ordL D).getD x 0 = (ordL D).getD k 0 → x = t := fun x hx ex => by
  rcases Nat.lt_trichotomy x t with q | q | q
  ·exact absurd ex (h4 x q)
  ·exact q
  ·exact absurd ex (h5 x hx q)
 rw [a m hm e, a k hk rfl]
theorem mem_drop {D : Dia} {k x : Nat} (h : x ∈ (ordL D).drop k) : ∃ m, k ≤ m ∧ m < (ordL D).length ∧ (ordL D).getD m 0 = x := by
 obtain ⟨m, hm, e⟩ := List.getElem_of_mem h
 rw [List.length_drop] at hm
 rw [List.getElem_drop] at e
 exact ⟨k + m, by omega, by omega, by simp [List.getD, show k + m < (ordL D).length by omega, e]⟩
theorem del_off {D : Dia} {k x : Nat} (h : isD D x = true) : x ∉ (ordL D).drop k := fun q => by
 obtain ⟨m, _, hm, e⟩ := mem_drop q
 have := (rdy_iff.1 (ord_rdy hm).2.1).2.1
 rw [e, h] at this; cases this
theorem src_off {D : Dia} (ok : OkD D) {k j : Nat} (hk : k < (ordL D).length) (hj : j < ns D ((ordL D).getD k 0)) : sr D ((ordL D).getD k 0) j ∉ (ordL D).drop k := by
 rcases (rdy_iff.1 (ord_rdy hk).2.1).2.2 j hj with h | h
 ·intro q
  obtain ⟨m, hm, hl, e⟩ := mem_drop q
  obtain ⟨t, ht, htl, et⟩ := inL_take.1 h
  have := ord_uniq ok hl htl (by rw [et, e])
  omega
 ·exact del_off h
def s0S (D : Dia) : Nat → DV := fun k => nmS (D.B ((delL D).getD k 0)).vn (D.B ((delL D).getD k 0)).ve
theorem del_at {D : Dia} {k : Nat} (hk : k < (delL D).length) : (delL D).getD k 0 < D.nb ∧ isD D ((delL D).getD k 0) = true := by
 have : (delL D).getD k 0 ∈ mkL D.nb (isD D) := by
  rw [List.getD_eq_getElem?_getD, List.getElem?_eq_getElem hk]; exact List.getElem_mem _
 exact mem_mkL.1 this
theorem lt_bits : ∀ (n m : Nat), bitsN m = n → m < 2 ^ n
 | 0, m, h => by
  by_cases h0 : m = 0
  ·subst h0; decide
  ·rw [bitsN_pos h0] at h; omega
 | n + 1, m, h => by
  by_cases h0 : m = 0
  ·subst h0; exact Nat.pow_pos (by decide)
  ·rw [bitsN_pos h0] at h
   have := lt_bits n (m / 2) (by omega)
   rw [Nat.pow_succ]; omega
theorem pow_pB {a k : Nat} (h : a ≤ 32 * k) : 2 ^ a ≤ pB k := by rw [pB_two]; exact Nat.pow_le_pow_right (by decide) h
theorem short_len {x : DV} (h : lng x = false) : len x.m ≤ 128 ∧ x.den ≤ 4096 := by
 have h' : max (bitsN x.m) x.den ≤ 4096 := by
  unfold lng at h; simpa using h
 refine ⟨len_le ?_, by omega⟩
 have := lt_bits _ x.m rfl
 exact Nat.lt_of_lt_of_le this (pow_pB (k := 128) (by omega))
theorem len_al {a : DV} {n : Nat} (h : len a.m ≤ 300) (hn : n ≤ 32000) : len (al a n) ≤ 1400 := by
 unfold al
 have := len_shl a.m (n - a.den)
 have : (n - a.den) / 32 ≤ 1000 := by omega
 omega
theorem len_mk (neg : Bool) (m k : Nat) : len (mkD neg m k).m ≤ len m := len_mono (mkD_le _ _ _)
theorem len_addD {a b : DV} (ha : len a.m ≤ 300) (hb : len b.m ≤ 300) (da : a.den ≤ 32000) (db : b.den ≤ 32000) : len (addD a b).m ≤ 1401 := by
 have h1 := len_al ha (n := max a.den b.den) (by omega)
 have h2 := len_al hb (n := max a.den b.den) (by omega)
 unfold addD
 split
 ·refine Nat.le_trans (len_mk _ _ _) ?_
  have := len_add (al a (max a.den b.den)) (al b (max a.den b.den))
  omega
 ·split
  ·refine Nat.le_trans (len_mk _ _ _) (Nat.le_trans (len_mono (Nat.sub_le _ _)) (by omega))
  ·refine Nat.le_trans (len_mk _ _ _) (Nat.le_trans (len_mono (Nat.sub_le _ _)) (by omega))
theorem negD_den (a : DV) (h : a.den ≤ 65536) : (negD a).den ≤ a.den := by
 unfold negD; rw [mkD_small h]; unfold nrm; split
 ·exact Nat.zero_le _
 ·exact Nat.sub_le _ _
theorem nmS_len' {n e : Int} (h1 : -9223372036854775808 ≤ n) (h2 : n ≤ 9223372036854775807) (h3 : e ≤ 30) : len (nmS n e).m ≤ 3 := by
 have a : (ofI n 0).m ≤ n.natAbs := by
  rw [ofI_form]; split
  ·exact Nat.zero_le _
  ·exact Nat.le_refl _
 have b : (nmS n e).m ≤ 9223372036854775808 * 1073741824 := by
  unfold nmS shiftD
  split
  ·exact Nat.le_trans (mkD_le _ _ _) (by omega)
  ·refine Nat.le_trans (mkD_le _ _ _) (Nat.mul_le_mul (by omega) ?_)
   have : (2 : Nat) ^ (clampN e).toNat ≤ 2 ^ 30 := Nat.pow_le_pow_right (by decide) (by unfold clampN; omega)
   simpa using this
 refine len_le (n := 3) ?_
 show _ < 4294967296 ^ 3; omega
theorem mkD_den (neg : Bool) (m k : Nat) : (mkD neg m k).den ≤ k := by
 unfold mkD
 split
 ·unfold nrm; split
  ·exact Nat.zero_le _
  ·exact Nat.sub_le _ _
 ·unfold nrm; split
  ·exact Nat.zero_le _
  ·show 65536 - _ ≤ k; omega
theorem nmS_den {n e : Int} (h1 : -62 ≤ e) : (nmS n e).den ≤ 62 := by
 have h0 : (ofI n 0).den ≤ 0 := mkD_den _ _ _
 unfold nmS shiftD
 split
 ·refine Nat.le_trans (mkD_den _ _ _) ?_
  unfold clampN; omega
 ·refine Nat.le_trans (mkD_den _ _ _) ?_
  omega
structure Shr (x : DV) : Prop where
 ok : x.ok
 len : len x.m ≤ 300
 den : x.den ≤ 32000
theorem Shr.of {x : DV} (h : lng x = false) (ok : x.ok) : Shr x := ⟨ok, by have := short_len h; omega, by have := short_len h; omega⟩
theorem Shr.nm {n e : Int} (h1 : -9223372036854775808 ≤ n) (h2 : n ≤ 9223372036854775807) (h3 : -62 ≤ e) (h4 : e ≤ 30) : Shr (nmS n e) :=
 ⟨nmS_ok _ _, by have := nmS_len' h1 h2 h4; omega, by have := nmS_den (n := n) h3; omega⟩
theorem Shr.zero : Shr DV.zero := ⟨DV.zero_ok, by rw [zero_len]; omega, by decide⟩
theorem prtV_eq (p : Prt) (x : Int) : prtV p x = nmS x (-p.fr) := rfl
end
end
section
section
open Go Go.RowKit
set_option maxRecDepth 100000 in
set_option maxHeartbeats 1000000 in
theorem enumber_any (n e : Int) (w : World) (hT : Tabs w) (h1 : -2147483648 < n) (h2 : n < 2147483648) (h3 : -62 ≤ e) (h4 : e ≤ 30) :
  Calls Tryz.prog 156 #[.agg #[I n, I e]] w (DyRes (nmS n e) w) := by
 have HT := Lib.hid hT; clear hT
 obtain ⟨X0, X2, XE⟩ := num_boxes w (I n) (I e) (.bool false) (.slice none 0 0) (I 0) 77 56
 have HX0 := Lib.hid X0; have HX2 := Lib.hid X2; have HXE := Lib.hid XE; have XE2 := Lib.hid (XE.trans (Ext.drew _))
 clear X0 X2 XE
 obtain ⟨⟨k0, k1⟩, kf⟩ := HX0.out
 obtain ⟨d', hd'⟩ : ∃ d', nmS n e = d' := ⟨_, rfl⟩
 obtain ⟨l1, l2⟩ := nmS_len h1 h2 h4
 have wf' := nmS_ok n e
 rw [hd'] at l2 wf' ⊢
 have HL := Lib.hid l1; have HL2 := Lib.hid l2; have HW := Lib.hid (ofI_ok n 0); have HW2 := Lib.hid wf'
 have HD' := Lib.hid hd'
 clear hd' l1 l2 wf'
 have hn2 : ¬ w.heap.size + 1 = w.heap.size := by omega
 have hn3 : ¬ w.heap.size = w.heap.size + 1 := by omega
 go_enter Tryz.func156, Tryz.ntmps156
 go_upto_region 1 with fail
 go_region_held3 (fun w' => w'.cell? ⟨w.heap.size, 0, none⟩ = some (I n) ∧ w'.cell? ⟨w.heap.size, 1, none⟩ = some (I e)) (go_keep)
  (first
   | (go_at_call 163; refine (of_any n _ (HT.out.ext (HXE.out.trans (Ext.drew _))) (by omega) (by omega)).mono ?_; rintro e5 w5 ⟨A5, c5, rfl, hon5, hx5⟩; obtain ⟨⟨q0, q1⟩, _⟩ := HX0.out.ext (w' := w5) ((Ext.drew _).trans hx5); have HDN := Lib.hid (dy_of_on hon5 HW.out HL.out (Ext.refl _)); clear hon5)
   | (go_at_call 162; refine (shift_any e HDN.out (HT.out.ext ((HXE.out.trans (Ext.drew _)).trans hx5)) (by omega) (by omega)).mono ?_; rw [show shiftD (ofI n 0) e = d' from HD'.out]; rintro e6 w6 ⟨A6, c6, rfl, hon6, hx6⟩; obtain ⟨⟨p0, p1⟩, _⟩ := HX0.out.ext (w' := w6) (((Ext.drew _).trans hx5).trans hx6); have gz := (HX2.out.ext (w' := w6) (((Ext.drew _).trans hx5).trans hx6)).2; obtain ⟨z0, z1, z2⟩ := (HX2.out.ext (w' := w6) (((Ext.drew _).trans hx5).trans hx6)).1; have HO6 := Lib.hid hon6; clear hon6))
 all_goals
  have HXF := Lib.hid (((HXE.out.trans (Ext.drew _)).trans hx5).trans hx6)
  have hsz5 := (XE2.out.trans hx5).size
  have hlt := (HX2.out.ext (w' := w5) ((Ext.drew _).trans hx5)).lt
  go_wp2_with fail
  refine bodyPost_ret (v := dv d'.neg A6 (len d'.m) c6 d'.den) (by simp [results, Tryz.results156, go_sem, z0, z1, z2]) rfl ⟨A6, c6, rfl, ?_, ?_⟩
  ·exact (HO6.out.set3 hlt _ _ _).mono hsz5
  ·exact ext_set3 HXF.out (by omega) _ _ _
theorem shift0 {d : DV} (h : d.ok) : shiftD d 0 = d := by
 unfold shiftD
 rw [if_neg (by unfold clampN; omega), show (clampN 0).toNat = 0 by decide, Nat.pow_zero, Nat.mul_one, mkD_small h.2.1, nrm_of_ok h]
end
section
open Go Go.RowKit
theorem OkD.scal {D : Dia} (ok : OkD D) {i : Nat} (hi : i < D.nb) : scE (usesV (D.B i).k) (D.B i).vn (D.B i).ve = 0 ∧ scE ((D.B i).k == 11) (D.B i).un (D.B i).ue = 0 ∧ ((D.B i).k = 11 → gtS (D.B i).vn (D.B i).ve (D.B i).un (D.B i).ue = false) := by
 have h := ok.be i hi
 unfold blkE at h
 by_cases h1 : (D.B i).k < 0 ∨ 11 < (D.B i).k
 ·rw [if_pos h1] at h; omega
 rw [if_neg h1] at h
 by_cases h2 : ((D.B i).n : Int) ≠ arity (D.B i).k
 ·rw [if_pos h2] at h; omega
 rw [if_neg h2] at h
 by_cases h3 : fstE (D.B i).n (fun j => inE (cntB D (D.B i)) ((D.B i).a j)) ≠ 0
 ·rw [if_pos h3] at h; exact absurd h h3
 rw [if_neg h3] at h
 by_cases h4 : scE (usesV (D.B i).k) (D.B i).vn (D.B i).ve ≠ 0
 ·rw [if_pos h4] at h; exact absurd h h4
 rw [if_neg h4] at h
 by_cases h5 : scE ((D.B i).k == 11) (D.B i).un (D.B i).ue ≠ 0
 ·rw [if_pos h5] at h; exact absurd h h5
 rw [if_neg h5] at h
 refine ⟨by omega, by omega, fun hk => ?_⟩
 cases hg : gtS (D.B i).vn (D.B i).ve (D.B i).un (D.B i).ue with
 | false => rfl
 | true => rw [if_pos ⟨hk, hg⟩] at h; omega
theorem scE_rng {n e : Int} (h : scE true n e = 0) : -2147483648 < n ∧ n < 2147483648 ∧ -62 ≤ e ∧ e ≤ 30 := by
 unfold scE at h
 rw [if_pos rfl] at h
 by_cases q : n ≤ -2147483648 ∨ 2147483648 ≤ n ∨ e < -62 ∨ 30 < e
 ·rw [if_pos q] at h; omega
 ·omega
theorem OkD.val {D : Dia} (ok : OkD D) {i : Nat} (hi : i < D.nb) (hu : usesV (D.B i).k = true) : -2147483648 < (D.B i).vn ∧ (D.B i).vn < 2147483648 ∧ -62 ≤ (D.B i).ve ∧ (D.B i).ve ≤ 30 := by
 have := (ok.scal hi).1; rw [hu] at this; exact scE_rng this
theorem OkD.upp {D : Dia} (ok : OkD D) {i : Nat} (hi : i < D.nb) (hu : (D.B i).k = 11) : -2147483648 < (D.B i).un ∧ (D.B i).un < 2147483648 ∧ -62 ≤ (D.B i).ue ∧ (D.B i).ue ≤ 30 := by
 have := (ok.scal hi).2.1; rw [hu] at this; exact scE_rng this
abbrev evv (D : Dia) (p : Pl) (Ao : Option Addr) (lo co : Nat) (Ad : Option Addr) (ld cd : Nat) : Value := .agg #[.slice p.AI D.ni p.cI, .slice p.AB D.nb p.cB, .slice p.AO D.no p.cO, .slice Ao lo co, .slice Ad ld cd]
def B5 (w : World) (g : Nat) (D : Dia) (p : Pl) (Ao : Option Addr) (lo co : Nat) (Ad : Option Addr) (ld cd : Nat) : Prop :=
 w.cell? ⟨g, 0, none⟩ = some (.slice p.AI D.ni p.cI) ∧ w.cell? ⟨g, 1, none⟩ = some (.slice p.AB D.nb p.cB) ∧ w.cell? ⟨g, 2, none⟩ = some (.slice p.AO D.no p.cO) ∧ w.cell? ⟨g, 3, none⟩ = some (.slice Ao lo co) ∧ w.cell? ⟨g, 4, none⟩ = some (.slice Ad ld cd)
theorem B5.lt {w : World} {g : Nat} {D : Dia} {p : Pl} {Ao Ad : Option Addr} {lo ld co cd : Nat} (h : B5 w g D p Ao lo co Ad ld cd) : g < w.heap.size := World.block_lt_of_cell? w _ h.1
theorem B5.ext {w w' : World} {g : Nat} {D : Dia} {p : Pl} {Ao Ad : Option Addr} {lo ld co cd : Nat} (h : B5 w g D p Ao lo co Ad ld cd) (e : Ext w w') : B5 w' g D p Ao lo co Ad ld cd :=
 ⟨(e.old.1 _ _ h.lt).trans h.1, (e.old.1 _ _ h.lt).trans h.2.1, (e.old.1 _ _ h.lt).trans h.2.2.1, (e.old.1 _ _ h.lt).trans h.2.2.2.1, (e.old.1 _ _ h.lt).trans h.2.2.2.2⟩
theorem B5.new (w : World) (D : Dia) (p : Pl) (Ao : Option Addr) (lo co : Nat) (Ad : Option Addr) (ld cd : Nat) (t : TypeId) :
  B5 (w.alloc (.cells #[.slice p.AI D.ni p.cI, .slice p.AB D.nb p.cB, .slice p.AO D.no p.cO, .slice Ao lo co, .slice Ad ld cd] t)) w.heap.size D p Ao lo co Ad ld cd := ⟨by go_simp, by go_simp, by go_simp, by go_simp, by go_simp⟩
set_option maxRecDepth 100000 in
set_option maxHeartbeats 1000000 in
theorem start_any {w : World} {D : Dia} {p : Pl} {Ao Ad : Option Addr} {lo ld co cd : Nat} (d : Dm w D p) (ok : OkD D) (hld : (delL D).length = ld) (rd : Rl w Ad cd (delL D)) (hT : Tabs w) :
  Calls Tryz.prog 89 #[evv D p Ao lo co Ad ld cd] w (LvR ld (s0S D) w) := by
 have hdl := del_le D
 rw [hld] at hdl
 have hnb := ok.nb
 have hmk := fun w => run_makeN w ld (by omega)
 obtain ⟨W1, hW1⟩ : ∃ W1, W1 = w.alloc (.cells #[.slice p.AI D.ni p.cI, .slice p.AB D.nb p.cB, .slice p.AO D.no p.cO, .slice Ao lo co, .slice Ad ld cd] 130) := ⟨_, rfl⟩
 have hE : Ext w W1 := by rw [hW1]; exact Ext.alloc _ _
 have hB : B5 W1 w.heap.size D p Ao lo co Ad ld cd := by rw [hW1]; exact B5.new _ _ _ _ _ _ _ _ _ _
 obtain ⟨g, hg⟩ : ∃ g, W1.heap.size = g := ⟨_, rfl⟩
 have HM0 : Hid (BuM w (W1.alloc (.cells (madeCells #[.bool false, .slice none 0 0, I 0] (ld * 3)) 56)) g ld (fun _ => RN.z) (upto (s0S D) 0) ∧ Ext W1 (W1.alloc (.cells (madeCells #[.bool false, .slice none 0 0, I 0] (ld * 3)) 56))) := ⟨BuM.new _ hE hg.symm, Ext.alloc _ _⟩
 have HB := Lib.hid hB; have HD := Lib.hid (d.ext hE); have HT := Lib.hid (hT.ext hE); have HR := Lib.hid (rd.ext hE); have OK := Lib.hid ok; have HE := Lib.hid hE
 obtain ⟨c0, c1, c2, c3, c4⟩ := hB
 have hz1 : W1.heap.size = w.heap.size + 1 := by rw [hW1]; simp
 have hne1 : ¬ w.heap.size = g := by omega
 have hne2 : ¬ g = w.heap.size := by omega
 have hne3 : w.heap.size < W1.heap.size := by omega
 have hne4 : w.heap.size < g := by omega
 have hne5 : ¬ w.heap.size = W1.heap.size := by omega
 have HZ := Lib.hid hz1
 clear d ok rd hT hE hz1
 have HND := Lib.hid hld; clear hld
 go_enter Tryz.func89, Tryz.ntmps89
 go_upto_region 1 with fail
 rw [← hW1]; clear hW1
 go_wp2_with fail
 (try rw [hg])
 clear hmk c0 c1 c2 c3 c4
 have HG := Lib.hid hg; clear hg
 go_loopw [13] (fun s wr => ∃ (j : Nat) (R' : Nat → RN), j ≤ ld ∧ s = I j ∧ Hid (BuM w wr g ld R' (upto (s0S D) j) ∧ Ext W1 wr)) (fun s _ => ld - (intOf s).toNat)
 case atStart => exact ⟨0, _, Nat.zero_le _, rfl, HM0⟩
 case round =>
  clear HM0
  obtain ⟨j, R', hj, rfl, H⟩ := hrel
  by_cases hlt : j < ld
  ·have hj' : j < (delL D).length := by rw [HND.out]; exact hlt
   obtain ⟨bd, od, hbd, hbld, hcd⟩ := (HR.out.ext H.out.2).1 (by omega)
   have xd := hcd j hj'
   obtain ⟨x, hxd⟩ : ∃ x, (delL D).getD j 0 = x := ⟨_, rfl⟩
   have hx := del_at hj'
   simp only [hxd] at xd hx
   obtain ⟨b, o, hb, hbl, hc⟩ := (HD.out.ext H.out.2).blocks (by omega)
   obtain ⟨x0, x1, x2, x3, x4, x5⟩ := hc x hx.1
   obtain ⟨k0, k1, k2, k3, k4⟩ := HB.out.ext H.out.2
   have hv := OK.out.val hx.1 (by have := hx.2; unfold isD at this; unfold usesV; simp at this; simp [this])
   have HNB : Hid (∀ w', Ext wr w' → Calls Tryz.prog 156 #[.agg #[I (D.B x).vn, I (D.B x).ve]] w' (DyRes (s0S D j) w')) := fun w' e => by
    have := enumber_any (D.B x).vn (D.B x).ve w' (HT.out.ext (H.out.2.trans e)) hv.1 hv.2.1 hv.2.2.1 hv.2.2.2
    unfold s0S; rw [hxd]; exact this
   have HOK : Hid ((s0S D j).ok ∧ len (s0S D j).m ≤ 16777216) := by
    have := nmS_len (n := (D.B x).vn) (e := (D.B x).ve) hv.1 hv.2.1 hv.2.2.2
    unfold s0S; rw [hxd]; exact ⟨nmS_ok _ _, this.2⟩
   have HUP : Hid (∀ i, putD (upto (s0S D) j) j (s0S D j) i = upto (s0S D) (j + 1) i) := upto_put (s0S D) j
   have hlt' : (j : Int) < (ld : Int) := by omega
   have hxl : (x : Int) < (D.nb : Int) := by omega
   clear hc hcd hx hv hj'
   go_wp2_with (go_at_call 156; (with_reducible refine (HNB.out _ (Ext.refl _)).mono ?_); rintro e1 w1 hr; obtain ⟨A1, y1, rfl, cn1, hA1, hx1⟩ := hr.cn HOK.out.1 HOK.out.2; have fz := (H.out.1.to hx1).lv.frozen; have f0 := fz (j * 3); have f1 := fz (j * 3 + 1); have f2 := fz (j * 3 + 2); obtain ⟨d0, d1, d2⟩ := (H.out.1.to hx1).lv.cells hlt; have HP := Lib.hid (H.out.1.put hx1 j _ A1 y1 cn1 hA1); have HX1 : Hid (Ext W1 _) := st3_ext g j (cnR (s0S D j) A1 y1) (H.out.2.trans hx1) (by rw [HG.out]; exact Nat.le_refl _); clear hr fz cn1 hA1 hx1)
   (try rw [← hb])
   (try rw [← hbd])
   go_roundw
   case rel => exact ⟨j + 1, _, by omega, by go_num, HP.out.congr fun i _ => HUP.out i, HX1.out⟩
   case measure => simp [intOf]; omega
  ·obtain rfl : j = ld := by omega
   go_wp2_with fail
   go_ret
   exact H.out.1.lvr
end
section
open Go Go.RowKit
theorem lng_max (d : DV) (x y : Int) (hx : (bitsN d.m : Int) = x) (hy : (d.den : Int) = y) : decide (4096 < max x y) = lng d := by
 unfold lng
 subst hx; subst hy
 rw [Bool.eq_iff_iff]
 simp only [decide_eq_true_eq]
 omega
end
end
section
open Go Go.RowKit
end
section
section
open Go Go.RowKit
theorem cell_far3 {w : World} {g h : Nat} {u0 u1 u2 : Value} (hne : h ≠ g) (k : Nat) : (((w.setCell ⟨g, 0, none⟩ u0).setCell ⟨g, 1, none⟩ u1).setCell ⟨g, 2, none⟩ u2).cell? ⟨h, k, none⟩ = w.cell? ⟨h, k, none⟩ := by
 rw [World.cell?_setCell_other _ _ _ _ (by intro q; injection q with q1 q2; omega), World.cell?_setCell_other _ _ _ _ (by intro q; injection q with q1 q2; omega), World.cell?_setCell_other _ _ _ _ (by intro q; injection q with q1 q2; omega)]
end
section
open Go Go.RowKit
end
end
section
open Go Go.RowKit
theorem mkL_get' {n x : Nat} {p : Nat → Bool} (hx : x < n) (hp : p x = true) : (mkL n p)[cnt x p]? = some x := by
 induction n with
 | zero => omega
 | succ n ih =>
  show (mkL n p ++ if p n = true then [n] else [])[cnt x p]? = some x
  by_cases e : x = n
  ·subst e
   rw [if_pos hp, List.getElem?_append_right (by rw [mkL_len]; exact Nat.le_refl _), mkL_len]; simp
  ·have h := ih (by omega)
   rw [List.getElem?_append_left ?_]
   ·exact h
   ·rcases Nat.lt_or_ge (cnt x p) (mkL n p).length with a | a
    ·exact a
    ·rw [List.getElem?_eq_none a] at h; cases h
theorem plc_get {D : Dia} {j : Nat} (hj : j < (delL D).length) : plc D ((delL D).getD j 0) = j := by
 obtain ⟨hx, hp⟩ := del_at hj
 generalize hxe : (delL D).getD j 0 = x at *
 have h1 : (delL D)[cnt x (isD D)]? = some x := mkL_get' hx hp
 have h2 : (delL D)[j]? = some x := by
  rw [List.getElem?_eq_getElem hj]; rw [List.getD_eq_getElem?_getD, List.getElem?_eq_getElem hj] at hxe; simpa using hxe
 have hs := mkL_sorted D.nb (isD D)
 obtain ⟨hc, e1⟩ := List.getElem?_eq_some_iff.1 h1
 obtain ⟨_, e2⟩ := List.getElem?_eq_some_iff.1 h2
 have hp := List.pairwise_iff_getElem.1 hs
 show cnt x (isD D) = j
 rcases Nat.lt_trichotomy (cnt x (isD D)) j with q | q | q
 ·have := hp _ _ hc hj q
  have a : (delL D)[cnt x (isD D)] < (delL D)[j] := this
  rw [e1, e2] at a; omega
 ·exact q
 ·have := hp _ _ hj hc q
  have a : (delL D)[j] < (delL D)[cnt x (isD D)] := this
  rw [e1, e2] at a; omega
theorem plc_lt {D : Dia} {i : Nat} (hi : i < D.nb) (hd : isD D i = true) : plc D i < (delL D).length ∧ (delL D).getD (plc D i) 0 = i := by
 have h1 : (delL D)[plc D i]? = some i := mkL_get' hi hd
 obtain ⟨hc, e⟩ := List.getElem?_eq_some_iff.1 h1
 exact ⟨hc, by rw [List.getD_eq_getElem?_getD, h1]; rfl⟩
def v1 (D : Dia) (S : Nat → DV) (j : Nat) : Nat → DV := fun i => if isD D i = true ∧ plc D i < j then S (plc D i) else DV.zero
theorem OkD.shr {D : Dia} (ok : OkD D) {i : Nat} (hi : i < D.nb) : Shr (nmS (D.B i).vn (D.B i).ve) ∧ Shr (nmS (D.B i).un (D.B i).ue) := by
 have key : ∀ u n e, scE u n e = 0 → Shr (nmS n e) := fun u n e h => by
  cases u with
  | true => have := scE_rng h; exact Shr.nm (by omega) (by omega) (by omega) (by omega)
  | false =>
   unfold scE at h
   rw [if_neg (by decide)] at h
   by_cases q : n = 0 ∧ e = 0
   ·rw [q.1, q.2]; exact Shr.nm (by omega) (by omega) (by omega) (by omega)
   ·rw [if_neg q] at h; omega
 exact ⟨key _ _ _ (ok.scal hi).1, key _ _ _ (ok.scal hi).2.1⟩
theorem OkD.port {D : Dia} (ok : OkD D) {x : Nat} (hx : x < D.ni) : 0 ≤ (D.P x).fr ∧ (D.P x).fr ≤ 30 ∧ -2147483648 ≤ (D.P x).lo ∧ (D.P x).lo ≤ (D.P x).hi ∧ (D.P x).hi < 2147483648 := by
 have hpe := ok.pe x hx
 unfold prtE at hpe
 by_cases q : -2147483648 ≤ (D.P x).lo ∧ (D.P x).lo ≤ (D.P x).hi ∧ (D.P x).hi < 2147483648 ∧ 0 ≤ (D.P x).fr ∧ (D.P x).fr ≤ 30
 ·omega
 ·rw [if_neg q] at hpe; omega
theorem OkD.inp {D : Dia} (ok : OkD D) {i : Nat} (hi : i < D.nb) (hk : (D.B i).k = 0) : sr D i 0 < D.ni ∧ (D.B i).n = 1 ∧ (D.B i).a 0 = (sr D i 0 : Nat) := by
 have h := ok.ar i hi
 have ha : arity (D.B i).k = 1 := by rw [hk]; decide
 have hag := ok.arg i hi 0 (by omega)
 have hcb : cntB D (D.B i) = D.ni := by unfold cntB; rw [if_pos hk]
 rw [hcb] at hag
 unfold sr; omega
end
section
open Go Go.RowKit
theorem LvM.off {w w' : World} {g n h : Nat} {R : Nat → RN} {V : Nat → DV} (l : LvM w g n R V) (e : w.grownBy w' (some h)) (hg : g ≠ h) (hw : ∀ i, i < n → ∀ a, (R i).A = some a → a.block ≠ h) : LvM w' g n R V :=
 ⟨l.row.of_block (e.block g l.row.lt (fun q => hg (Option.some.inj q))), fun i hi => (l.el i hi).fr e (fun _ => hw i hi), l.ne⟩
end
section
open Go Go.RowKit
def PrR (D : Dia) (p : Pl) (w : World) (e : Ending) (w' : World) : Prop :=
 ∃ Ao co Ad cd, e = .returned (.tuple #[evv D p Ao (ordL D).length co Ad (delL D).length cd, .nilIface]) ∧ Rl w' Ao co (ordL D) ∧ Rl w' Ad cd (delL D) ∧ Ext w w'
theorem fr_set5 (w : World) (g : Nat) (a b c d e : Value) : w.grownBy (((((w.setCell ⟨g, 0, none⟩ a).setCell ⟨g, 1, none⟩ b).setCell ⟨g, 2, none⟩ c).setCell ⟨g, 3, none⟩ d).setCell ⟨g, 4, none⟩ e) (some g) :=
 fr_trans (fr_trans (fr_trans (fr_trans (fr_set _ _ _ _) (fr_set _ _ _ _)) (fr_set _ _ _ _)) (fr_set _ _ _ _)) (fr_set _ _ _ _)
theorem Ri.gr {w w' : World} {A : Option Addr} {n g : Nat} {f : Nat → Int} (h : Ri w A n f) (e : w.grownBy w' (some g)) (hne : ∀ b o, A = some ⟨b, o, none⟩ → b ≠ g) : Ri w' A n f := fun hn => by
 obtain ⟨b, o, ha, hb, hc⟩ := h hn
 have hbl := e.block b hb (fun q => hne b o ha (Option.some.inj q))
 exact ⟨b, o, ha, Nat.lt_of_lt_of_le hb e.size, fun i hi => by rw [← hc i hi]; exact World.cell?_of_block (a := ⟨b, o + i, none⟩) hbl⟩
theorem Rl.gr {w w' : World} {A : Option Addr} {c g : Nat} {L : List Nat} (h : Rl w A c L) (e : w.grownBy w' (some g)) (hne : ∀ b o, A = some ⟨b, o, none⟩ → b ≠ g) : Rl w' A c L := ⟨h.1.gr e hne, h.2⟩
theorem OwL.ne {w : World} {base c : Nat} {A : Option Addr} {L : List Nat} (h : OwL w base A c L) : ∀ b o, A = some ⟨b, o, none⟩ → base ≤ b := fun b o hA => by
 have h' := h
 obtain ⟨_, ⟨e, _⟩ | ⟨g, cap, cur, e, _⟩⟩ := h'
 ·injection e with e1; rw [hA] at e1; cases e1
 ·injection e with e1 e2 e3
  rw [hA] at e1
  injection e1 with e1
  injection e1 with e1 e4
  subst e1; subst e4; subst hA
  exact (h.lt b rfl).1
set_option maxRecDepth 100000 in
set_option maxHeartbeats 2000000 in
theorem prepare_ok {w : World} {D : Dia} {p : Pl} (d : Dm w D p) (hT : Tabs w) (h : chk D = 0) : Calls Tryz.prog 84 #[dgv D p] w (PrR D p w) := by
 obtain ⟨W1, hW1⟩ : ∃ W1, W1 = (w.alloc (.cells #[.slice p.AI D.ni p.cI, .slice p.AB D.nb p.cB, .slice p.AO D.no p.cO] 26)).alloc (.cells #[.slice none 0 0, .slice none 0 0, .slice none 0 0, .slice none 0 0, .slice none 0 0] 130) := ⟨_, rfl⟩
 have hE : Ext w W1 := by rw [hW1]; exact (Ext.alloc _ _).trans (Ext.alloc _ _)
 have hz1 : W1.heap.size = w.heap.size + 1 + 1 := by rw [hW1]; simp
 have hbd : Bd W1 w.heap.size D p := by rw [hW1]; exact (Bd.new _ _ _ _).ext (Ext.alloc _ _)
 have HR5 : Hid (∀ w', Ext W1 w' → (w'.cell? ⟨w.heap.size + 1, 0, none⟩ = some (.slice none 0 0) ∧ w'.cell? ⟨w.heap.size + 1, 1, none⟩ = some (.slice none 0 0) ∧ w'.cell? ⟨w.heap.size + 1, 2, none⟩ = some (.slice none 0 0) ∧ w'.cell? ⟨w.heap.size + 1, 3, none⟩ = some (.slice none 0 0) ∧ w'.cell? ⟨w.heap.size + 1, 4, none⟩ = some (.slice none 0 0)) ∧
   (w'.frozen? ⟨w.heap.size + 1, 0, none⟩ = false ∧ w'.frozen? ⟨w.heap.size + 1, 1, none⟩ = false ∧ w'.frozen? ⟨w.heap.size + 1, 2, none⟩ = false ∧ w'.frozen? ⟨w.heap.size + 1, 3, none⟩ = false ∧ w'.frozen? ⟨w.heap.size + 1, 4, none⟩ = false)) := fun w' e => by
  have hl : w.heap.size + 1 < W1.heap.size := by omega
  refine ⟨⟨(e.old.1 _ _ hl).trans ?_, (e.old.1 _ _ hl).trans ?_, (e.old.1 _ _ hl).trans ?_, (e.old.1 _ _ hl).trans ?_, (e.old.1 _ _ hl).trans ?_⟩, (e.old.2 _ _ hl).trans ?_, (e.old.2 _ _ hl).trans ?_, (e.old.2 _ _ hl).trans ?_, (e.old.2 _ _ hl).trans ?_, (e.old.2 _ _ hl).trans ?_⟩ <;> (rw [hW1]; go_simp)
 have HBX : Hid (∀ w', Ext W1 w' → w'.cell? ⟨w.heap.size, 0, none⟩ = some (.slice p.AI D.ni p.cI) ∧ w'.cell? ⟨w.heap.size, 1, none⟩ = some (.slice p.AB D.nb p.cB) ∧ w'.cell? ⟨w.heap.size, 2, none⟩ = some (.slice p.AO D.no p.cO)) := fun w' e => by
  have a := hbd.ext e; exact ⟨a.c0, a.c1, a.c2⟩
 have HO : Hid (∀ w', Ext W1 w' → Calls Tryz.prog 114 #[dgv D p] w' (LsE (ordL D) w')) := fun w' e => Order_ok (d.ext (hE.trans e)) (hT.ext (hE.trans e)) h
 have HDl : Hid (∀ w', Ext W1 w' → Calls Tryz.prog 115 #[dgv D p] w' (LsE (delL D) w')) := fun w' e => Delays_ok (d.ext (hE.trans e)) (hT.ext (hE.trans e)) h
 have HE := Lib.hid hE; have HZ := Lib.hid hz1
 obtain ⟨c0, c1, c2⟩ := HBX.out _ (Ext.refl _)
 clear d hT h hbd hE hz1
 go_enter Tryz.func84, Tryz.ntmps84
 go_upto_region 1 with fail
 rw [← hW1]; clear hW1
 go_wp2_with (first
  | (go_at_call 114; (with_reducible refine (HO.out _ (Ext.refl _)).mono ?_); rintro e1 w1 ⟨Ao, co, rfl, o1, h1⟩; have HX1 := Lib.hid h1; have HO1 := Lib.hid o1; obtain ⟨d0, d1, d2⟩ := HBX.out _ h1; clear h1 o1)
  | (go_at_call 115; (with_reducible refine (HDl.out _ HX1.out).mono ?_); rintro e1 w2 ⟨Ad, cd, rfl, o2, h2⟩; have HX2 := Lib.hid (HX1.out.trans h2); have HO2 := Lib.hid o2; have HO12 := Lib.hid (HO1.out.ext h2); obtain ⟨d0, d1, d2⟩ := HBX.out _ HX2.out; obtain ⟨⟨r0, r1, r2, r3, r4⟩, f0, f1, f2, f3, f4⟩ := HR5.out _ HX2.out; clear h2 o2))
 refine bodyPost_ret (v := .tuple #[evv D p Ao (ordL D).length co Ad (delL D).length cd, .nilIface]) (by simp [results, Tryz.results84, go_sem, r0, r1, r2, r3, r4]) rfl ⟨Ao, co, Ad, cd, rfl, ?_, ?_, ?_⟩
 ·exact HO12.out.rl.gr (fr_set5 _ _ _ _ _ _ _) (fun b o q => by have := HO12.out.ne b o q; have := HZ.out; omega)
 ·exact HO2.out.rl.gr (fr_set5 _ _ _ _ _ _ _) (fun b o q => by have := HO2.out.ne b o q; have := HX1.out.size; have := HZ.out; omega)
 ·exact ext_fr (HE.out.trans HX2.out) (fr_set5 _ _ _ _ _ _ _) (by omega)
end
end Go.Proofs.YtgnngldlgcdnfaaGreatDoor
