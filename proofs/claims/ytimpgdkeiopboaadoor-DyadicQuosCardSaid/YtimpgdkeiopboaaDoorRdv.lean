/- The reference's division, bit by bit. -/
import Derived.Test.YtimpgdkeiopboaaDoorMref
import Derived.Test.YtimpgdkeiopboaaDoorDvb
import Derived.Laws.CopyOwn
namespace Go.Proofs.YtimpgdkeiopboaaDoor
open Go.RowKit

theorem Row.heap {w : World} {base g n : Nat} {f : Nat → Nat} (h : Row w base g n n f) : w.heap[g]? = some (.cells (wl f n).toArray 53 (0, 0)) := by
  rcases h.2 with ⟨h', _⟩ | ⟨g', cap, cur, h', hb, hg, hnc, hcm, hcs, htake⟩
  · simp at h'
  · simp only [Value.slice.injEq, Option.some.injEq, Addr.mk.injEq, and_true, true_and] at h'
    obtain ⟨rfl, rfl⟩ := h'
    have hl : cur.toList.length = n := by rw [Array.length_toList, hcs, Nat.mul_one]
    have e : cur = (wl f n).toArray := by
      rw [← htake, Nat.mul_one, List.take_of_length_le (by omega)]
    rw [← e]; exact hg
theorem Row.of_heap {w : World} {base g n : Nat} {f : Nat → Nat} (hb : base ≤ g) (hn : n ≤ maxLen) (hg : w.heap[g]? = some (.cells (wl f n).toArray 53 (0, 0))) : Row w base g n n f :=
  ⟨by simp [wl_len], .inr ⟨g, n, _, rfl, hb, hg, Nat.le_refl _, hn, by simp [wl_len], by rw [List.toList_toArray, Nat.mul_one, List.take_of_length_le (by rw [wl_len]; exact Nat.le_refl _)]⟩⟩
theorem splice_wl {f h : Nat → Nat} {n k : Nat} (hk : k ≤ n) : splice (wl f n) 0 (wl h k) = wl (fun i => if i < k then h i else f i) n := by
  apply List.ext_getElem?
  intro i
  unfold splice wl
  by_cases h1 : i < k
  · simp [List.getElem?_append, h1, show i < n by omega]
  · by_cases h2 : i < n
    · simp [List.getElem?_append, h1, h2, show k + (i - k) = i by omega]
    · simp [List.getElem?_append, h1, h2, show ¬ k + (i - k) < n by omega]
theorem wl_one (f : Nat → Nat) (n : Nat) : ∀ v ∈ wl f n, v.oneCell' = true := by
  intro v hv; unfold wl at hv; simp at hv; obtain ⟨i, _, rfl⟩ := hv; rfl

def DivRes (m n : Nat) (w : World) (e : Ending) (w' : World) : Prop := ∃ A c, e = .returned (.tuple #[.slice A (len (m / n)) c, .bool (decide (m % n ≠ 0))]) ∧ On w' w.heap.size A (len (m / n)) c (dg (m / n)) ∧ Ext w w'

set_option maxRecDepth 100000 in
set_option maxHeartbeats 4000000 in
theorem rdivide_any (A B : Option Addr) (m n ca cb : Nat) (w : World) (ha : Rd w A (len m) (dg m)) (hb' : Rd w B (len n) (dg n)) (hL : len m ≤ 33554432) (hM : len n ≤ 33554432) (hn : n ≠ 0) :
    Calls Tryd.prog 27 #[.slice A (len m) ca, .slice B (len n) cb] w (DivRes m n w) := by
  have HA := Lib.hid ha; clear ha
  have HB := Lib.hid hb'; clear hb'
  have hmL := lt_pB_len m
  have hnl := lt_pB_len n
  obtain ⟨L, hLe⟩ : ∃ L, len m = L := ⟨_, rfl⟩
  obtain ⟨l, hle⟩ : ∃ l, len n = l := ⟨_, rfl⟩
  rw [hLe] at hL HA hmL ⊢
  rw [hle] at hM hnl
  have HLe := Lib.hid hLe; clear hLe
  obtain ⟨w1, hrun, hrow, hx⟩ := run_make_row w L (by omega)
  obtain ⟨w2, hrun2, hrow2, hx2⟩ := run_make_row w1 (l + 1) (by omega)
  obtain ⟨g1, hg1⟩ : ∃ g, w.heap.size = g := ⟨_, rfl⟩
  obtain ⟨g2, hg2⟩ : ∃ g, w1.heap.size = g := ⟨_, rfl⟩
  have hlt1 : g1 < g2 := by have := hrow.lt; omega
  have hcast : ((l + 1 : Nat) : Int) = (l : Int) + 1 := by omega
  rw [hcast] at hrun2
  have HG0 := Lib.hid (hrow.ext hx2)
  have HF0 : Hid (Row w2 w.heap.size w1.heap.size (l + 1) (l + 1) (fun _ => 0)) := hrow2.on.mono hx.size
  have HX0 := Lib.hid (hx.trans hx2)
  have HLs : Hid (∀ w' A' R ca', Rd w' A' (len R) (dg R) → len R ≤ 1073741824 → Ext w w' → Calls Tryd.prog 49 #[.slice A' (len R) ca', .slice B l cb] w' fun e w2 => e = .returned (.bool (decide (R < n))) ∧ Ext w' w2) := fun w' A' R ca' h1 h2 h3 => by
    have := rless_any A' B R n ca' cb w' h1 (HB.out.ext h3) h2; rwa [hle] at this
  have HMi : Hid (∀ w' A' R ca', Rd w' A' (len R) (dg R) → len R ≤ 1073741824 → n ≤ R → Ext w w' → Calls Tryd.prog 51 #[.slice A' (len R) ca', .slice B l cb] w' (NatRes (R - n) w')) := fun w' A' R ca' h1 h2 h3 h4 => by
    have := rminus_any A' B R n ca' cb w' h1 (HB.out.ext h4) h2 h3; rwa [hle] at this
  rw [hle]
  clear hle hrow hrow2 hx hx2 HB
  rw [hg1] at hrun HG0 HF0
  rw [hg2] at hrun2 HF0
  have HW1 := Lib.hid hg1; have HW2 := Lib.hid hg2
  clear hg1 hg2
  go_enter Tryd.func27, Tryd.ntmps27
  go_wp2_with fail
  clear hrun hrun2
  go_loopw [8] (fun si wr => ∃ (t K R : Nat) (F G : Nat → Nat), si = I ((t : Int) - 1) ∧ t ≤ 32 * L ∧ R < n ∧ Hid (Row wr g1 g1 L L G) ∧ Hid (Row wr g1 g2 (l + 1) (l + 1) F) ∧ Hid (Ext w wr) ∧ Hid (∀ i, i < l + 1 → F i < 4294967296) ∧ Hid (∀ i, i < L → G i < 4294967296) ∧
      Hid (valN F (l + 1) = R) ∧ Hid (valN G L = K * 2 ^ t) ∧ Hid (m / 2 ^ t = K * n + R)) (fun si _ => (intOf si + 1).toNat)
  case atStart =>
    refine ⟨32 * L, 0, 0, fun _ => 0, fun _ => 0, by go_num, Nat.le_refl _, by omega, HG0, HF0, HX0, (fun _ _ => by show (0:Nat) < _; decide), (fun _ _ => by show (0:Nat) < _; decide), ?_, ?_, ?_⟩
    · show _ = _; rw [valN_zeros (f := fun _ => 0) (t := 0) (Nat.zero_le _) (fun _ _ _ => rfl)]; rfl
    · show _ = _; rw [valN_zeros (f := fun _ => 0) (t := 0) (Nat.zero_le _) (fun _ _ _ => rfl), Nat.zero_mul]; rfl
    · show _ = _; rw [Nat.zero_mul, Nat.div_eq_of_lt (by rw [← pB_two]; exact hmL)]
  case round =>
    clear HG0 HF0 HX0
    obtain ⟨t, K, R, F, G, rfl, ht, hR, hG, hF, hX, hFb, hGb, hv, hq, hinv⟩ := hrel
    by_cases h0 : 0 < t
    · obtain ⟨s, rfl⟩ : ∃ s, t = s + 1 := ⟨t - 1, by omega⟩
      have hst : ((s + 1 : Nat) : Int) - 1 = (s : Int) := by omega
      simp only [hst]
      obtain ⟨a, hae⟩ : ∃ a, s / 32 = a := ⟨_, rfl⟩
      obtain ⟨z, hze⟩ : ∃ z, s % 32 = z := ⟨_, rfl⟩
      have haL : a < L := by omega
      have ea : (s : Int) / 32 = (a : Int) := by omega
      have es : (s : Int) % 32 = (z : Int) := by omega
      have hz32 : z < 32 := by omega
      have hbit := bit_dg m s
      rw [hae, hze] at hbit
      obtain ⟨b2, o2, rfl, hb2, c2⟩ := (HA.out.ext hX.out).at_ haL
      have hxl := dg_lt m a
      obtain ⟨x, hxe⟩ : ∃ x, dg m a = x := ⟨_, rfl⟩
      rw [hxe] at c2 hxl hbit
      clear hxe
      obtain ⟨v, hve⟩ : ∃ v, x / 2 ^ z = v := ⟨_, rfl⟩
      have ev : (x : Int) / 2 ^ z = (v : Int) := by rw [← hve]; simp
      have hvb : v < 4294967296 := by rw [← hve]; exact Nat.lt_of_le_of_lt (Nat.div_le_self _ _) hxl
      have eb := and_one32 hvb
      rw [hve] at hbit
      rw [hbit] at eb
      have hd2 : m / 2 ^ s % 2 < 2 := Nat.mod_lt _ (by decide)
      obtain ⟨d, hd⟩ : ∃ d, m / 2 ^ s % 2 = d := ⟨_, rfl⟩
      rw [hd] at eb hd2
      have HD := Lib.hid hd
      have HAE := Lib.hid hae; have HZE := Lib.hid hze
      clear hbit hd hve hae hze
      have i1 : (0 : Int) ≤ (a : Int) := by omega
      go_wp2_with fail
      go_loopw [9, 41] (fun sc sk wk => ∃ (k c : Nat) (F' : Nat → Nat), k ≤ l + 1 ∧ sk = I k ∧ sc = U4 c ∧ c ≤ 1 ∧ Hid (Row wk g1 g2 (l + 1) (l + 1) F') ∧ Hid (wr.grownBy wk (some g2)) ∧ Hid (∀ i, i < l + 1 → F' i < 4294967296) ∧ Hid (∀ j, k ≤ j → F' j = F j) ∧
        Hid (valN F' k + c * pB k = 2 * valN F k + d)) (fun _ sk _ => l + 1 - (intOf sk).toNat)
      case atStart => exact ⟨0, d, F, Nat.zero_le _, rfl, rfl, by omega, hF, fr_refl _ _, hFb.out, (fun _ _ => rfl), by show _ = _; simp [valN, pB_zero]⟩
      case round =>
        obtain ⟨k, c, F', hk, rfl, rfl, hc, hF', hfr, hFb', hFo, hv'⟩ := hrel
        by_cases hlt : k < l + 1
        · have hk1 : (k : Int) < (l : Int) + 1 := by omega
          have c1 := hF'.out.cell hlt
          have f1 := hF'.out.frozen k
          have hx := hFb'.out k hlt
          have hFk := Lib.hid (hFo.out k (Nat.le_refl _))
          obtain ⟨y, hye⟩ : ∃ y, F' k = y := ⟨_, rfl⟩
          rw [hye] at c1 hx hFk
          clear hye
          obtain ⟨d1, d2, d3, d4⟩ := dbl_word hx hc
          have hor := or_nat32 (a := y * 2 % 4294967296) (b := c) (by omega) (by omega)
          rw [d1] at hor
          obtain ⟨r, hre⟩ : ∃ r, y * 2 % 4294967296 + c = r := ⟨_, rfl⟩
          obtain ⟨c', hce⟩ : ∃ c', y / 2147483648 = c' := ⟨_, rfl⟩
          rw [hre] at hor d2 d4
          rw [hce] at d3 d4
          have hor' : bits .or .u32 ((y : Int) * 2 % 4294967296) (c : Int) = (r : Int) := by rw [← hor]; congr 1
          have hcc : (y : Int) / 2147483648 = (c' : Int) := by omega
          have HDS := Lib.hid (dbl_step hv'.out d4)
          clear hor hre hce d1 d4
          go_wp2_with fail
          go_roundw
          case rel =>
            refine ⟨k + 1, c', upd F' k r, by omega, by go_num, rfl, d3, Row.set hF'.out k r, fr_trans hfr.out (Row.set_fr hF'.out k r), upd_lt hFb'.out d2, ?_, ?_⟩
            · exact fun j hj => by rw [upd_ne _ (by omega)]; exact hFo.out j (by omega)
            · show _ = _
              rw [valN_upd, pB_succ, valN, ← hFk.out]; exact HDS.out
          case measure => simp [intOf]; omega
        · obtain rfl : k = l + 1 := by omega
          have hR2 : 2 * R + d < pB (l + 1) := by rw [pB_succ]; omega
          have hval := hv'.out
          rw [hv.out] at hval
          have hc0 : c = 0 := by
            rcases (show c = 0 ∨ c = 1 by omega) with h | h
            · exact h
            · rw [h, Nat.one_mul] at hval; omega
          subst hc0
          rw [Nat.zero_mul, Nat.add_zero] at hval
          obtain ⟨R', hR'⟩ : ∃ R', 2 * R + d = R' := ⟨_, rfl⟩
          have hVF : valN F' (l + 1) = R' := by rw [hval, hR']
          rw [hR'] at hR2
          have hlr : len R' ≤ l + 1 := len_le hR2
          have hRd : Rd wr (some ⟨g2, 0, none⟩) (len R') (dg R') := (hF'.out.rd.le hlr).congr fun i hi => by rw [← hVF]; exact (dg_valN hFb'.out (by omega)).symm
          have HTR : Hid (∀ w', Ext wr w' → Calls Tryd.prog 50 #[.slice (some ⟨g2, 0, none⟩) (l + 1 : Nat) (l + 1 : Nat)] w' fun e w2 => e = .returned (.slice (some ⟨g2, 0, none⟩) (len R') (l + 1)) ∧ w' = w2) := fun w' e => by
            have := rtrim_any (some ⟨g2, 0, none⟩) (l + 1) (l + 1) F' w' (hF'.out.rd.ext e) hFb'.out (Nat.le_refl _) (by unfold maxLen; omega)
            rwa [hVF] at this
          have hcast2 : ((l + 1 : Nat) : Int) = (l : Int) + 1 := by omega
          have hXw : Hid (Ext w wr) := ext_fr hX.out hfr.out (by rw [HW1.out]; omega)
          have HRD := Lib.hid hRd
          have HVF := Lib.hid hVF; have HRR := Lib.hid hR'
          clear hRd hVF hval hv' hR' hFo
          have hne12 : some g1 ≠ some g2 := by intro h; injection h with h; omega
          have hsz2 := hF'.out.lt.2
          by_cases hRn : R' < n
          · have HLR := HLs.out wr (some ⟨g2, 0, none⟩) R' (l + 1) HRD.out (by omega) hXw.out
            rw [decide_eq_true hRn] at HLR
            have HN := Lib.hid (div_lt' hinv.out HD.out)
            go_wp2_with (first
              | (go_at_call 50; (with_reducible refine (HTR.out _ (Ext.refl _)).mono ?_); rintro e w4 ⟨rfl, rfl⟩)
              | (go_at_call 49; (with_reducible refine HLR.mono ?_); rintro e w5 ⟨rfl, hx5⟩))
            go_roundw
            case rel =>
              refine ⟨s, 2 * K, R', F', G, by go_num, by omega, hRn, (hG.out.grown hfr.out hne12).ext hx5, hF'.out.ext hx5, hXw.out.trans hx5, hFb', hGb, HVF, hq.out.trans (q_val0 K s), ?_⟩
              show _ = _; rw [HN.out, HRR.out]
            case measure => simp [intOf]
          · have HLR := HLs.out wr (some ⟨g2, 0, none⟩) R' (l + 1) HRD.out (by omega) hXw.out
            rw [decide_eq_false hRn] at HLR
            have hnR : n ≤ R' := by omega
            have HN := Lib.hid (div_ge' hinv.out HD.out (by have := HRR.out; omega))
            rw [HRR.out] at HN
            go_wp2_with (first
              | (go_at_call 50; (first | (with_reducible refine (HTR.out _ hx5).mono ?_) | (with_reducible refine (HTR.out _ (Ext.refl _)).mono ?_)); rintro e w4 ⟨rfl, rfl⟩)
              | (go_at_call 49; (with_reducible refine HLR.mono ?_); rintro e w5 ⟨rfl, hx5⟩)
              | (go_at_call 51; (with_reducible refine (HMi.out _ (some ⟨g2, 0, none⟩) R' (l + 1) (HRD.out.ext hx5) (by omega) hnR (hXw.out.trans hx5)).mono ?_); rintro e w6 ⟨D, cD, rfl, hOn, hx6⟩))
            have hx56 := hx5.trans hx6
            have hX6 := Lib.hid (hXw.out.trans hx56)
            have hG6 := Lib.hid ((hG.out.grown hfr.out hne12).ext hx56)
            have hF6 := Lib.hid (hF'.out.ext hx56)
            have hD := Lib.hid hOn.rd
            have hs5 := hx5.size
            have hDne : Hid (∀ ad, D = some ad → ad.block ≠ g2) := fun ad had => by
              rcases hOn.cases with ⟨h, _⟩ | ⟨gd, h, hr⟩
              · rw [h] at had; cases had
              · rw [h] at had; cases had; have := hr.lt.1; show gd ≠ g2; omega
            have hld : len (R' - n) ≤ l + 1 := Nat.le_trans (len_mono (Nat.sub_le _ _)) hlr
            have hRn2 : R' - n < n := by have := HRR.out; omega
            clear hF' hG hX hXw HTR HRD HLR hOn hx56
            go_loopw [72] (fun sk wk => ∃ (k : Nat) (F3 : Nat → Nat), k ≤ l + 1 ∧ sk = I k ∧ Hid (Row wk g1 g2 (l + 1) (l + 1) F3) ∧ Hid (w6.grownBy wk (some g2)) ∧ Hid (∀ j, j < k → F3 j = 0)) (fun sk _ => l + 1 - (intOf sk).toNat)
            case atStart => exact ⟨0, F', Nat.zero_le _, rfl, hF6, fr_refl _ _, fun j hj => by omega⟩
            case round =>
              obtain ⟨k, F3, hk3, rfl, hF3, hfr3, hz3⟩ := hrel
              by_cases hlt3 : k < l + 1
              · have hk1 : (k : Int) < (l : Int) + 1 := by omega
                have c1 := hF3.out.cell hlt3
                have f1 := hF3.out.frozen k
                go_wp2_with fail
                go_roundw
                case rel =>
                  exact ⟨k + 1, upd F3 k 0, by omega, by go_num, Row.set hF3.out k 0, fr_trans hfr3.out (Row.set_fr hF3.out k 0), fun j hj => by
                    by_cases e : j = k
                    · rw [e, upd_same]
                    · rw [upd_ne _ e]; exact hz3.out j (by omega)⟩
                case measure => simp [intOf]; omega
              · obtain rfl : k = l + 1 := by omega
                have hGr := hG6.out.grown hfr3.out hne12
                have hXr : Ext w wr := ext_fr hX6.out hfr3.out (by rw [HW1.out]; omega)
                have hDr := hD.out.fr hfr3.out hDne.out
                have HH := Lib.hid hF3.out.heap
                have HPOS : Hid (0 < (wl (dg (R' - n)) (len (R' - n))).length → (some ⟨g2, 0, none⟩ : Option Addr) = some ⟨g2, 0, none⟩ ∧ ∃ ad, D = some ad ∧ ∀ j v, (wl (dg (R' - n)) (len (R' - n)))[j]? = some v → wr.cell? (ad.add j) = some v) := fun hp => by
                  rw [wl_len] at hp
                  obtain ⟨b3, o3, rfl, hb3, hc3⟩ := hDr hp
                  refine ⟨rfl, _, rfl, fun j v hj => ?_⟩
                  have hj' : j < len (R' - n) := by
                    rcases Nat.lt_or_ge j (len (R' - n)) with h | h
                    · exact h
                    · rw [List.getElem?_eq_none (by rw [wl_len]; exact h)] at hj; cases hj
                  rw [wl_get _ hj'] at hj
                  cases hj
                  have hcj := hc3 j hj'
                  unfold Addr.add
                  split
                  · rename_i h; rw [h] at hcj ⊢; simpa using hcj
                  · exact hcj
                have HLEN : Hid ((wl (dg (R' - n)) (len (R' - n))).length = Nat.min (len (R' - n)) (l + 1)) := by show _ = _; rw [wl_len]; exact (Nat.min_eq_left hld).symm
                have HFIT : Hid (0 + (wl (dg (R' - n)) (len (R' - n))).length ≤ (wl F3 (l + 1)).length) := by show _ ≤ _; rw [wl_len, wl_len]; omega
                have HGH := Lib.hid hGr.heap
                have HXR := Lib.hid hXr
                have HSP := Lib.hid (splice_wl (f := F3) (h := dg (R' - n)) hld)
                have HONE := Lib.hid (wl_one (dg (R' - n)) (len (R' - n)))
                have HG7 : Hid (∀ w7, Below g2 wr w7 → Row w7 g1 g1 L L G) := fun w7 hB => Row.of_heap (Nat.le_refl _) (by unfold maxLen; omega) ((Below.block hB g1 hlt1).trans HGH.out)
                have hga : G a = dg (K * 2 ^ (s + 1)) (s / 32) := by rw [HAE.out, ← hq.out]; exact (dg_valN hGb.out haL).symm
                obtain ⟨q1, q2⟩ := q_or K s
                rw [← hga, HZE.out] at q1 q2
                have HYA := Lib.hid hga
                obtain ⟨y, hye⟩ : ∃ y, G a = y := ⟨_, rfl⟩
                rw [hye] at q1 q2
                have HC7 : Hid (∀ w7, Below g2 wr w7 → w7.cell? ⟨g1, a, none⟩ = some (U4 y) ∧ w7.frozen? ⟨g1, a, none⟩ = false) := fun w7 hB => ⟨by rw [← hye]; exact (HG7.out w7 hB).cell haL, (HG7.out w7 hB).frozen a⟩
                have HYE := Lib.hid hye
                obtain ⟨p, hpe⟩ : ∃ p, 2 ^ z = p := ⟨_, rfl⟩
                rw [hpe] at q1 q2
                have hor2 := or_nat32 (a := y) (b := p) (by omega) (by omega)
                rw [q1] at hor2
                have hp1 : (2 : Int) ^ z = (p : Int) := by rw [← hpe]; simp
                have HPE := Lib.hid hpe
                have hal : (a : Int) < (L : Int) := by omega
                clear hye hga q1 hpe
                obtain ⟨cur, hcur⟩ : ∃ c, c = wl F3 (l + 1) := ⟨_, rfl⟩
                obtain ⟨cs, hcs⟩ : ∃ c, c = wl (dg (R' - n)) (len (R' - n)) := ⟨_, rfl⟩
                rw [← hcur] at HH HFIT HSP
                rw [← hcs] at HPOS HLEN HFIT HSP HONE
                clear hcur hcs hGr hXr hDr
                go_wp2_with (first
                  | (refine wpList_copy_splice rfl (.tmp 79) (.tmp 80) 22 22 rfl 53 Tryd.underlying22 (by kernel_rfl) (some ⟨g2, 0, none⟩) D (l + 1) (l + 1) (len (R' - n)) cD rfl rfl g2 0 cur 53 HH.out cs HLEN.out HPOS.out HFIT.out HONE.out g2 wr (Below.refl _ _) (Nat.le_refl _) ?_; intro w7 hH7 hB7; obtain ⟨c7, f7⟩ := HC7.out w7 hB7))
                go_roundw
                case rel =>
                  rw [show (y : Int) + (p : Int) = ((y + p : Nat) : Int) by omega]
                  refine ⟨s, 2 * K + 1, R' - n, fun i => if i < len (R' - n) then dg (R' - n) i else F3 i, upd G a (y + p), by go_num, by omega, hRn2, Row.set (HG7.out w7 hB7) a (y + p), ?_, ?_, ?_, upd_lt hGb.out q2, ?_, ?_, HN⟩
                  · have hr : Row w7 g1 g2 (l + 1) (l + 1) (fun i => if i < len (R' - n) then dg (R' - n) i else F3 i) := Row.of_heap (by omega) (by unfold maxLen; omega) (by rw [← HSP.out]; exact hH7.out)
                    exact hr.grown (Row.set_fr (HG7.out w7 hB7) a (y + p)) (by intro h; injection h with h; omega)
                  · exact Ext.set (Below.trans HXR.out (Below.mono hB7 (by rw [HW1.out]; omega))) (by rw [HW1.out]; exact Nat.le_refl _) _
                  · intro i hi
                    show (if i < len (R' - n) then dg (R' - n) i else F3 i) < _
                    split
                    · exact dg_lt _ _
                    · rw [hz3.out i hi]; decide
                  · show valN _ _ = _
                    rw [valN_zeros hld (fun i h1 h2 => by show (if i < len (R' - n) then _ else _) = _; rw [if_neg (by omega)]; exact hz3.out i h2), valN_congr (g := dg (R' - n)) (fun i hi => by show (if i < len (R' - n) then _ else _) = _; rw [if_pos hi]), valN_dg_all (Nat.le_refl _)]
                  · show valN _ _ = _
                    rw [valN_upd_in L haL (by rw [HYE.out]; omega), HYE.out, hq.out, Nat.add_sub_cancel_left, ← HPE.out, ← HZE.out, ← HAE.out]
                    exact q_val K s
                case measure => simp [intOf]
    · obtain rfl : t = 0 := by omega
      have hq0 := hq.out
      rw [Nat.pow_zero, Nat.mul_one] at hq0
      have hi0 := hinv.out
      rw [Nat.pow_zero, Nat.div_one] at hi0
      have hK : m / n = K := by rw [hi0, Nat.mul_comm, Nat.mul_add_div (by omega), Nat.div_eq_of_lt hR, Nat.add_zero]
      have hRm : m % n = R := by rw [hi0, Nat.mul_comm, Nat.mul_add_mod, Nat.mod_eq_of_lt hR]
      have HT1 := rtrim_any (some ⟨g1, 0, none⟩) L L G wr hG.out.rd hGb.out (Nat.le_refl _) (by unfold maxLen; omega)
      have HT2 := rtrim_any (some ⟨g2, 0, none⟩) (l + 1) (l + 1) F wr hF.out.rd hFb.out (Nat.le_refl _) (by unfold maxLen; omega)
      rw [hq0] at HT1
      rw [hv.out] at HT2
      have HON : Hid (On wr w.heap.size (some ⟨g1, 0, none⟩) (len K) L (dg K)) := by
        have hlk : len K ≤ L := by rw [← hq0]; exact len_le (valN_lt hGb.out)
        have hr : Row wr g1 g1 L L G := hG.out
        rw [HW1.out]
        exact ((hr.le hlk).congr fun i hi => by rw [← hq0]; exact (dg_valN hGb.out (by omega)).symm).on
      have hst : ((0 : Nat) : Int) - 1 = -1 := by omega
      simp only [hst]
      have HK := Lib.hid hK; have HRm := Lib.hid hRm
      have HRz : Hid (decide (R ≠ 0) = decide (0 < len R)) := by
        show _ = _
        apply decide_eq_decide.mpr
        constructor
        · intro h; exact Nat.pos_of_ne_zero fun e => h (len_eq_zero.1 e)
        · intro h e; rw [e, len_zero] at h; omega
      clear hi0 hq0 hK hRm
      go_wp2_with (go_at_call 50; (first | (with_reducible refine HT1.mono ?_) | (with_reducible refine HT2.mono ?_)); rintro e w4 ⟨rfl, rfl⟩)
      go_ret2
      exact ⟨some ⟨g1, 0, none⟩, L, by rw [HK.out, HRm.out, HRz.out]; rfl, by rw [HK.out]; exact HON.out, hX.out⟩
end Go.Proofs.YtimpgdkeiopboaaDoor
