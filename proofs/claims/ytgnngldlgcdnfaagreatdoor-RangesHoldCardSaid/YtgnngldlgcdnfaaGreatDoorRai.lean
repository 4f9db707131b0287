import Derived.Test.YtgnngldlgcdnfaaGreatDoorRah
import Derived.Test.YtgnngldlgcdnfaaGreatDoorRag
import Derived.Test.YtgnngldlgcdnfaaGreatDoorRaf
import Derived.Deep.RegionHeld3
import Derived.Test.YtgnngldlgcdnfaaGreatDoorQah
import Derived.Deep.AppendLies
namespace Go.Proofs.YtgnngldlgcdnfaaGreatDoor
section
open Go Go.RowKit
attribute [local go_sem ↓] Go.wp_at_zero Go.wp_at_succ
theorem LvC.ln {w : World} {g n : Nat} {R : Nat → RI} {V : Nat → IV} (h : LvC w g n R V) : LnI w (some ⟨g, 0, none⟩) n R V :=
 ⟨fun _ => ⟨g, 0, rfl, h.row.lt, fun i hi => by rw [Nat.zero_add]; exact h.row.cells hi⟩, h.el⟩
def itI (D : Dia) (r : Nat) : Nat → Nat → IV
 | 0 => fun i => ptI (s0S D i)
 | k + 1 => fun i => if r ≤ k then foI (itI D r k i) (nxI D (itI D r k) i) else nxI D (itI D r k) i
def ubK (D : Dia) (r k : Nat) : Bool := anyN (delL D).length (fun i => ubI (itI D r k i))
def evK (D : Dia) (r k : Nat) : Int := evE D (delL D).length (fun _ => true) (itI D r k)
def smK (D : Dia) (r k : Nat) : Bool := allN (delL D).length (fun i => smI (itI D r k i) (nxI D (itI D r k) i))
def goK (D : Dia) (r k : Nat) : Prop := ubK D r k = false ∧ evK D r k = 0 ∧ smK D r k = false
def InR (D : Dia) (r K : Nat) (w : World) (e : Ending) (w' : World) : Prop :=
  ((ubK D r K = true ∧ e = .returned (.tuple #[.slice none 0 0, .iface 48 (I 22)])) ∨
   (ubK D r K = false ∧ evK D r K ≠ 0 ∧ e = .returned (.tuple #[.slice none 0 0, .iface 48 (I (evK D r K))])) ∨
   (ubK D r K = false ∧ evK D r K = 0 ∧ smK D r K = true ∧ ∃ A c R, e = .returned (.tuple #[.slice A (delL D).length c, .nilIface]) ∧ LnI w' A (delL D).length R (itI D r K))) ∧ Ext w w'
theorem nx_len {D : Dia} {n : Nat} {b : Nat → Bool} {S : Nat → IV} (ok : OkD D) (hg : ∀ i, i < n → GdI (S i)) (ht : ∀ i, i < D.nb → GdI (tkI D S i)) (hz : evE D n b S = 0) {i : Nat} (hi : i < n) : len (nxI D S i).lo.m ≤ 999 ∧ len (nxI D S i).hi.m ≤ 999 := by
 obtain ⟨hn, _, hl⟩ := evE_good hz
 have hs := sdI_lt ok (k := i) (by omega)
 have hu := hul_sh ((hg i hi).sh (ev_short hz hi)) ((ht _ hs).sh (hl _ hs))
 have l1 := lim_floor (hulI (S i) (tkI D S (sdI D i))).lo 64; have l2 := lim_ceil (hulI (S i) (tkI D S (sdI D i))).hi 64
 have e1 := hu.1.len; have e2 := hu.2.1.len
 exact ⟨by show len (floorD _ 64).m ≤ _; omega, by show len (ceilD _ 64).m ≤ _; omega⟩
set_option maxRecDepth 100000 in
set_option maxHeartbeats 4000000 in
theorem Infer_run {w : World} {D : Dia} {p : Pl} (d : Dm w D p) (hT : Tabs w) (hk : chk D = 0) (r : Nat) (h1 : 1 ≤ r) (h2 : r ≤ 16) (K : Nat) (hK : K ≤ 1000000) (hgo : ∀ k, k < K → goK D r k) (hst : ¬ goK D r K) :
  Calls Tryz.prog 22 #[dgv D p, I r] w (InR D r K w) := by
 have ok := chk_ok hk
 obtain ⟨n, hn⟩ : ∃ n, (delL D).length = n := ⟨_, rfl⟩
 obtain ⟨lo, hlo⟩ : ∃ lo, (ordL D).length = lo := ⟨_, rfl⟩
 have hnm : n ≤ 10000 := by have := del_le D; have := ok.nb; omega
 have HP : Hid (∀ w', Ext w w' → Calls Tryz.prog 54 #[dgv D p] w' (fun e w'' => ∃ Ao co Ad cd gs Rs, e = .returned (.tuple #[anv D p Ao lo co Ad n cd (some ⟨gs, 0, none⟩) n n, .nilIface]) ∧ Rl w'' Ao co (ordL D) ∧ Rl w'' Ad cd (delL D) ∧ LvM w'' gs n Rs (s0S D) ∧ Ext w' w'')) := fun w' e => (rprepare_ok (d.ext e) (hT.ext e) hk).mono fun e w'' hh => by
  obtain ⟨Ao, co, Ad, cd, g, R, he, h1, h2, h3, h4⟩ := hh
  rw [hlo, hn] at he
  rw [hn] at h3
  exact ⟨Ao, co, Ad, cd, g, R, he, h1, h2, h3, h4⟩
 have HPT : Hid (∀ w' gs Rs, Ext w w' → LvM w' gs n Rs (s0S D) → Calls Tryz.prog 69 #[.slice (some ⟨gs, 0, none⟩) n n] w' (LvR6 n (itI D r 0) w')) := fun w' gs Rs e h => points_any h.ln (fun i hi => by
  have hx := (del_at (D := D) (k := i) (by omega)).1
  exact (ok.shr hx).1.end_) (hT.ext e) hnm
 have HCF : Hid (∀ w' A c R k, Ext w w' → LnI w' A n R (itI D r k) → Calls Tryz.prog 70 #[.slice A n c, .func (.func 71) #[] #[]] w' fun e w'' => e = .returned (.bool (ubK D r k)) ∧ Ext w' w'') := fun w' A c R k e h => by
  have := containsI_any 71 A n c R (fun i => ubI (itI D r k i)) w' h.rn (by omega) (enters_of Tryz.func71 (by kernel_rfl) rfl) fun i w'' hi x => isUnbounded_any ((h.el i hi).ext x) (hT.ext (e.trans x))
  unfold ubK; rw [hn]; exact this
 have HEQ : Hid (∀ w' A c R B cb T k, LnI w' A n R (itI D r k) → LnI w' B n T (nxI D (itI D r k)) → Calls Tryz.prog 73 #[.slice A n c, .slice B n cb, .func (.func 74) #[] #[]] w' fun e w'' => e = .returned (.bool (smK D r k)) ∧ Ext w' w'') := fun w' A c R B cb T k h t => by
  have := equalI_any 74 A B n c cb R T (fun i => smI (itI D r k i) (nxI D (itI D r k) i)) w' h.rn t.rn (by omega) (enters_of Tryz.func74 (by kernel_rfl) rfl) fun i w'' hi x => isSame_any ((h.el i hi).ext x) ((t.el i hi).ext x)
  unfold smK; rw [hn]; exact this
 have hEl : ∀ {w' : World} {A : Option Addr} {R : Nat → RI} {k : Nat}, LnI w' A n R (itI D r k) → ∀ i, i < n → ElI w' (R i) (itI D r k i) true := fun h i hi => ElI.of (h.el i hi)
 have HEV : Hid (∀ w' A c R k Ao co Ad cd As, Ext w w' → LnI w' A n R (itI D r k) → Rl w' Ad cd (delL D) → Rl w' Ao co (ordL D) → Calls Tryz.prog 72 #[anv D p Ao lo co Ad n cd As n n, .slice A n c] w' (RoP D n (fun _ => true) (itI D r k) w')) := fun w' A c R k Ao co Ad cd As e h rd ro => by
  by_cases hz : evE D n (fun _ => true) (itI D r k) = 0
  ·exact (round_ok (d.ext e) ok (hT.ext e) hlo rd ro h.rn (hEl h) hz).mono fun e' w'' hh => .inr ⟨hz, hh⟩
  ·exact (round_bad (d.ext e) ok (hT.ext e) hn hlo rd ro h.rn (hEl h) hz).mono fun e' w'' hh => .inl ⟨hz, hh.1, hh.2⟩
 have HLN : Hid (∀ w' A c R k Ao co Ad cd, Ext w w' → LnI w' A n R (itI D r k) → Rl w' Ad cd (delL D) → Rl w' Ao co (ordL D) → evE D n (fun _ => true) (itI D r k) = 0 → ∀ i, i < n → len (nxI D (itI D r k) i).lo.m ≤ 999 ∧ len (nxI D (itI D r k) i).hi.m ≤ 999) := fun w' A c R k Ao co Ad cd e h rd ro hz => by
  obtain ⟨e1, w1, fr, hh, _⟩ := (evaluate_any (As := none) (ns' := n) (cs := n) (ci := c) (d.ext e) ok (hT.ext e) hn hlo rd ro h.rn (hEl h)) []
  rcases hh with ⟨q, _⟩ | ⟨_, g, R2, _, bu⟩
  ·exact absurd hz q
  ·exact fun i hi => nx_len ok (fun i hi => (h.el i hi).gd) (fun i hi => (bu.lv.el i hi).gd) hz hi
 have HT := Lib.hid hT
 have HGO : Hid (∀ k, k < K → ubK D r k = false ∧ evE D n (fun _ => true) (itI D r k) = 0 ∧ smK D r k = false ∧ 0 < n) := fun k hk => by
  obtain ⟨a, b, c⟩ := hgo k hk
  unfold evK at b; rw [hn] at b
  refine ⟨a, b, c, ?_⟩
  by_cases h0 : n = 0
  ·unfold smK at c; rw [hn, h0] at c; cases c
  ·omega
 have HIT : Hid (∀ k, r ≤ k → itI D r (k + 1) = fun i => foI (itI D r k i) (nxI D (itI D r k) i)) := fun k h => by
  funext i; show (if r ≤ k then _ else _) = _; rw [if_pos h]
 have HIN : Hid (∀ k, ¬ r ≤ k → itI D r (k + 1) = nxI D (itI D r k)) := fun k h => by
  funext i; show (if r ≤ k then _ else _) = _; rw [if_neg h]
 have HR1 : Hid (∀ (e : Ending) (w' : World), ubK D r K = true → e = .returned (.tuple #[.slice none 0 0, .iface 48 (I 22)]) → Ext w w' → InR D r K w e w') := fun e w' a b x => ⟨.inl ⟨a, b⟩, x⟩
 have HR2 : Hid (∀ (e : Ending) (w' : World), ubK D r K = false → evE D n (fun _ => true) (itI D r K) ≠ 0 → e = .returned (.tuple #[.slice none 0 0, .iface 48 (I (evE D n (fun _ => true) (itI D r K)))]) → Ext w w' → InR D r K w e w') := fun e w' a b c x => ⟨.inr (.inl ⟨a, by unfold evK; rw [hn]; exact b, by unfold evK; rw [hn]; exact c⟩), x⟩
 have HR3 : Hid (∀ (e : Ending) (w' : World) A c R, ubK D r K = false → evE D n (fun _ => true) (itI D r K) = 0 → smK D r K = true → e = .returned (.tuple #[.slice A n c, .nilIface]) → LnI w' A n R (itI D r K) → Ext w w' → InR D r K w e w') := fun e w' A c R a b cc h l x => ⟨.inr (.inr ⟨a, by unfold evK; rw [hn]; exact b, cc, A, c, R, by rw [hn]; exact h, by rw [hn]; exact l⟩), x⟩
 have HST : Hid (ubK D r K = false → evE D n (fun _ => true) (itI D r K) = 0 → smK D r K = true) := fun a b => by
  cases c : smK D r K with
  | true => rfl
  | false => exact absurd ⟨a, by unfold evK; rw [hn]; exact b, c⟩ hst
 have g1 : decide ((r : Int) < 1) = false := decide_eq_false (by omega)
 have g2 : decide (16 < (r : Int)) = false := decide_eq_false (by omega)
 clear d hT hk ok hlo hgo hst hEl hn
 go_enter Tryz.func22, Tryz.ntmps22
 go_upto_region 7 with (first
  | (go_at_call 54; (with_reducible refine (HP.out _ (Ext.alloc _ _)).mono ?_); rintro e1 w1 ⟨Ao, co, Ad, cd, gs, Rs, rfl, ro, rd, st, h1⟩; have HRO := Lib.hid ro; have HRD := Lib.hid rd; have HSM := Lib.hid st; have HX1 := Lib.hid ((Ext.alloc _ _).trans h1); clear ro rd st h1)
  | (go_at_call 69; (with_reducible refine (HPT.out _ _ _ (HX1.out.trans (Ext.alloc _ _)) (HSM.out.ext (Ext.alloc _ _))).mono ?_); rintro e2 w2 ⟨g, R2, rfl, hr⟩; have HR := Lib.hid hr; clear hr))
 have hx2 := (Ext.alloc w1 (.cells #[.slice p.AI D.ni p.cI, .slice p.AB D.nb p.cB, .slice p.AO D.no p.cO, .slice Ao lo co, .slice Ad n cd, .slice (some ⟨gs, 0, none⟩) n n] 102)).trans HR.out.ext
 have HB2 : Hid (B6A w2 w1.heap.size D p Ao lo co Ad n cd (some ⟨gs, 0, none⟩) n n) := by
  have q := (B6.new w1 (.slice p.AI D.ni p.cI) (.slice p.AB D.nb p.cB) (.slice p.AO D.no p.cO) (.slice Ao lo co) (.slice Ad n cd) (.slice (some ⟨gs, 0, none⟩) n n) 102).ext HR.out.ext
  exact q
 have HRD2 := Lib.hid (HRD.out.ext hx2); have HRO2 := Lib.hid (HRO.out.ext hx2)
 have HX2 := Lib.hid (HX1.out.trans hx2)
 have HL0 := Lib.hid HR.out.lv.ln
 clear hx2 HRD HRO HX1 HR HSM HP HPT g1 g2
 generalize w1.heap.size = ga at *
 go_wp2_with fail
 go_loopw [8, 9] (fun s8 s9 wr => ∃ (k : Nat) (A : Option Addr) (c : Nat) (R : Nat → RI), k ≤ K ∧ s9 = I k ∧ s8 = .slice A n c ∧ Hid (LnI wr A n R (itI D r k)) ∧ Hid (Ext w2 wr)) (fun _ s9 _ => K - (intOf s9).toNat)
 case atStart => exact ⟨0, _, _, _, Nat.zero_le _, rfl, rfl, HL0, Ext.refl _⟩
 case round =>
  clear HL0
  obtain ⟨k, A, c, R, hk, rfl, rfl, HL, H⟩ := hrel
  obtain ⟨⟨a0, a1, a2, a3, a4, a5⟩, _⟩ := HB2.out.ext H.out
  have HC := Lib.hid (HCF.out wr A c R k (HX2.out.trans H.out) HL.out)
  by_cases hlt : k < K
  ·obtain ⟨u1, u2, u3, u4⟩ := HGO.out k hlt
   rw [u1] at HC
   have HV : Hid (∀ w', Ext wr w' → Calls Tryz.prog 72 #[anv D p Ao lo co Ad n cd (some ⟨gs, 0, none⟩) n n, .slice A n c] w' fun e w'' => ∃ g R, e = .returned (.tuple #[.slice (some ⟨g, 0, none⟩) n n, .nilIface]) ∧ BuI w' w'' g n R (nxI D (itI D r k))) := fun w' x => (HEV.out w' A c R k Ao co Ad cd _ (HX2.out.trans (H.out.trans x)) (HL.out.ext x) (HRD2.out.ext (H.out.trans x)) (HRO2.out.ext (H.out.trans x))).mono fun e w'' hh => by
    rcases hh with ⟨q, _⟩ | ⟨_, q⟩
    ·exact absurd u2 q
    ·exact q
   have HQ : Hid (∀ w' B cb T, Ext wr w' → LnI w' B n T (nxI D (itI D r k)) → Calls Tryz.prog 73 #[.slice A n c, .slice B n cb, .func (.func 74) #[] #[]] w' fun e w'' => e = .returned (.bool false) ∧ Ext w' w'') := fun w' B cb T x t => by
    have := HEQ.out w' A c R B cb T k (HL.out.ext x) t; rwa [u3] at this
   by_cases hrk : r ≤ k
   ·have HF : Hid (∀ w' B cb T, Ext wr w' → LnI w' B n T (nxI D (itI D r k)) → Calls Tryz.prog 75 #[.slice A n c, .slice B n cb] w' fun e w'' => ∃ g cap R, e = .returned (.slice (some ⟨g, 0, none⟩) n cap) ∧ LnI w'' (some ⟨g, 0, none⟩) n R (itI D r (k + 1)) ∧ Ext w' w'') := fun w' B cb T x t => by
     rw [HIT.out k hrk]
     exact (furtherOutward_any (HL.out.ext x) t u4 hnm (HT.out.ext (HX2.out.trans (H.out.trans x))) (HLN.out wr A c R k Ao co Ad cd (HX2.out.trans H.out) HL.out (HRD2.out.ext H.out) (HRO2.out.ext H.out) u2)).mono fun e w'' hh => by
      obtain ⟨g, cap, R, h1, h2, _, h4⟩ := hh
      exact ⟨g, cap, R, h1, h2.ln, h4⟩
    have hd : decide ((r : Int) ≤ (k : Int)) = true := decide_eq_true (by omega)
    have hd' : decide (r ≤ k) = true := decide_eq_true hrk
    clear u1 u2 u3 u4
    go_wp2_with (first
     | (go_at_call 70; (with_reducible refine HC.out.mono ?_); rintro e1 w3 ⟨rfl, h3⟩; have HX3 := Lib.hid h3; (try clear a0 a1 a2 a3 a4 a5); obtain ⟨⟨a0, a1, a2, a3, a4, a5⟩, _⟩ := HB2.out.ext (H.out.trans h3); clear h3)
     | (go_at_call 72; (with_reducible refine (HV.out _ HX3.out).mono ?_); rintro e1 w4 ⟨g4, R4, rfl, b4⟩; have HB4 := Lib.hid b4; have HL4 := Lib.hid b4.lv.ln; have HX4 := Lib.hid (HX3.out.trans b4.ext); clear b4)
     | (go_at_call 73; (with_reducible refine (HQ.out _ _ _ _ HX4.out HL4.out).mono ?_); rintro e1 w5 ⟨rfl, h5⟩; have HX5 := Lib.hid (HX4.out.trans h5); have HL5 := Lib.hid (HL4.out.ext h5); clear h5)
     | (go_at_call 75; (with_reducible refine (HF.out _ _ _ _ HX5.out HL5.out).mono ?_); rintro e1 w6 ⟨g6, c6, R6, rfl, l6, h6⟩; have HL6 := Lib.hid l6; have HX6 := Lib.hid (HX5.out.trans h6); clear l6 h6))
    go_roundw
    case rel => exact ⟨k + 1, _, _, _, by omega, by go_num, rfl, HL6, H.out.trans HX6.out⟩
    case measure => simp [intOf]; omega
   ·have hd : decide ((r : Int) ≤ (k : Int)) = false := decide_eq_false (by omega)
    have hd' : decide (r ≤ k) = false := decide_eq_false hrk
    have HNN : Hid (itI D r (k + 1) = nxI D (itI D r k)) := HIN.out k hrk
    clear u1 u2 u3 u4
    go_wp2_with (first
     | (go_at_call 70; (with_reducible refine HC.out.mono ?_); rintro e1 w3 ⟨rfl, h3⟩; have HX3 := Lib.hid h3; (try clear a0 a1 a2 a3 a4 a5); obtain ⟨⟨a0, a1, a2, a3, a4, a5⟩, _⟩ := HB2.out.ext (H.out.trans h3); clear h3)
     | (go_at_call 72; (with_reducible refine (HV.out _ HX3.out).mono ?_); rintro e1 w4 ⟨g4, R4, rfl, b4⟩; have HB4 := Lib.hid b4; have HL4 := Lib.hid b4.lv.ln; have HX4 := Lib.hid (HX3.out.trans b4.ext); clear b4)
     | (go_at_call 73; (with_reducible refine (HQ.out _ _ _ _ HX4.out HL4.out).mono ?_); rintro e1 w5 ⟨rfl, h5⟩; have HX5 := Lib.hid (HX4.out.trans h5); have HL5 := Lib.hid (HL4.out.ext h5); clear h5))
    go_roundw
    case rel => exact ⟨k + 1, _, _, _, by omega, by go_num, rfl, by rw [HNN.out]; exact HL5, H.out.trans HX5.out⟩
    case measure => simp [intOf]; omega
  ·obtain rfl : k = K := by omega
   clear HGO
   cases hub : ubK D r k with
   | true =>
    rw [hub] at HC
    have HUB := Lib.hid hub; clear hub
    go_wp2_with (first
     | (go_at_call 70; (with_reducible refine HC.out.mono ?_); rintro e1 w3 ⟨rfl, h3⟩; have HX3 := Lib.hid h3; (try clear a0 a1 a2 a3 a4 a5); obtain ⟨⟨a0, a1, a2, a3, a4, a5⟩, _⟩ := HB2.out.ext (H.out.trans h3); clear h3))
    go_ret2
    exact HR1.out _ _ HUB.out rfl (HX2.out.trans (H.out.trans HX3.out))
   | false =>
    rw [hub] at HC
    have HUB := Lib.hid hub; clear hub
    by_cases u2 : evE D n (fun _ => true) (itI D r k) = 0
    ·have hsm := HST.out HUB.out u2
     have HEV0 := Lib.hid u2
     have HV : Hid (∀ w', Ext wr w' → Calls Tryz.prog 72 #[anv D p Ao lo co Ad n cd (some ⟨gs, 0, none⟩) n n, .slice A n c] w' fun e w'' => ∃ g R, e = .returned (.tuple #[.slice (some ⟨g, 0, none⟩) n n, .nilIface]) ∧ BuI w' w'' g n R (nxI D (itI D r k))) := fun w' x => (HEV.out w' A c R k Ao co Ad cd _ (HX2.out.trans (H.out.trans x)) (HL.out.ext x) (HRD2.out.ext (H.out.trans x)) (HRO2.out.ext (H.out.trans x))).mono fun e w'' hh => by
      rcases hh with ⟨q, _⟩ | ⟨_, q⟩
      ·exact absurd u2 q
      ·exact q
     have HQ : Hid (∀ w' B cb T, Ext wr w' → LnI w' B n T (nxI D (itI D r k)) → Calls Tryz.prog 73 #[.slice A n c, .slice B n cb, .func (.func 74) #[] #[]] w' fun e w'' => e = .returned (.bool true) ∧ Ext w' w'') := fun w' B cb T x t => by
      have := HEQ.out w' A c R B cb T k (HL.out.ext x) t; rwa [hsm] at this
     have HSMK := Lib.hid hsm
     clear u2 hsm
     go_wp2_with (first
      | (go_at_call 70; (with_reducible refine HC.out.mono ?_); rintro e1 w3 ⟨rfl, h3⟩; have HX3 := Lib.hid h3; (try clear a0 a1 a2 a3 a4 a5); obtain ⟨⟨a0, a1, a2, a3, a4, a5⟩, _⟩ := HB2.out.ext (H.out.trans h3); clear h3)
      | (go_at_call 72; (with_reducible refine (HV.out _ HX3.out).mono ?_); rintro e1 w4 ⟨g4, R4, rfl, b4⟩; have HB4 := Lib.hid b4; have HL4 := Lib.hid b4.lv.ln; have HX4 := Lib.hid (HX3.out.trans b4.ext); clear b4)
      | (go_at_call 73; (with_reducible refine (HQ.out _ _ _ _ HX4.out HL4.out).mono ?_); rintro e1 w5 ⟨rfl, h5⟩; have HX5 := Lib.hid (HX4.out.trans h5); have HL5 := Lib.hid (HL4.out.ext h5); clear h5))
     go_ret2
     exact HR3.out _ _ _ _ _ HUB.out HEV0.out HSMK.out rfl (HL.out.ext HX5.out) (HX2.out.trans (H.out.trans HX5.out))
    ·have HEV0 := Lib.hid u2
     have HV : Hid (∀ w', Ext wr w' → Calls Tryz.prog 72 #[anv D p Ao lo co Ad n cd (some ⟨gs, 0, none⟩) n n, .slice A n c] w' fun e w'' => e = .returned (.tuple #[.slice none 0 0, .iface 48 (I (evE D n (fun _ => true) (itI D r k)))]) ∧ Ext w' w'') := fun w' x => (HEV.out w' A c R k Ao co Ad cd _ (HX2.out.trans (H.out.trans x)) (HL.out.ext x) (HRD2.out.ext (H.out.trans x)) (HRO2.out.ext (H.out.trans x))).mono fun e w'' hh => by
      rcases hh with ⟨_, q⟩ | ⟨q, _⟩
      ·exact q
      ·exact absurd q u2
     clear u2
     generalize evE D n (fun _ => true) (itI D r k) = z at *
     go_wp2_with (first
      | (go_at_call 70; (with_reducible refine HC.out.mono ?_); rintro e1 w3 ⟨rfl, h3⟩; have HX3 := Lib.hid h3; (try clear a0 a1 a2 a3 a4 a5); obtain ⟨⟨a0, a1, a2, a3, a4, a5⟩, _⟩ := HB2.out.ext (H.out.trans h3); clear h3)
      | (go_at_call 72; (with_reducible refine (HV.out _ HX3.out).mono ?_); rintro e1 w4 ⟨rfl, h4⟩; have HX4 := Lib.hid (HX3.out.trans h4); clear h4))
     go_ret2
     exact HR2.out _ _ HUB.out HEV0.out rfl (HX2.out.trans (H.out.trans HX4.out))
end
section
open Go Go.RowKit
attribute [local go_sem ↓] Go.wp_at_zero Go.wp_at_succ
def flD : Dia where
 ni := 1
 P := fun _ => ⟨-1, 1, 0⟩
 nb := 4
 B := fun i => if i = 0 then ⟨0, 1, fun _ => 0, 0, 0, 0, 0⟩ else if i = 1 then ⟨6, 1, fun _ => 3, 1, -1, 0, 0⟩ else if i = 2 then ⟨3, 2, fun j => if j = 0 then 0 else 1, 0, 0, 0, 0⟩ else ⟨2, 1, fun _ => 2, 0, 0, 0, 0⟩
 no := 1
 O := fun _ => 2
theorem fl_chk : chk flD = 0 := by kernel_rfl
theorem fl_del : (delL flD).length = 1 := by kernel_rfl
theorem fl_go0 : goK flD 2 0 := ⟨by kernel_rfl, by kernel_rfl, by kernel_rfl⟩
theorem fl_go1 : goK flD 2 1 := ⟨by kernel_rfl, by kernel_rfl, by kernel_rfl⟩
theorem fl_go2 : goK flD 2 2 := ⟨by kernel_rfl, by kernel_rfl, by kernel_rfl⟩
theorem fl_ub3 : ubK flD 2 3 = false := by kernel_rfl
theorem fl_ev3 : evK flD 2 3 = 0 := by kernel_rfl
theorem fl_sm3 : smK flD 2 3 = true := by kernel_rfl
theorem fl_cl : clB flD 1 (itI flD 2 3) = true := by kernel_rfl
def flP (w : World) : Pl where
 AI := some ⟨w.heap.size + 1, 0, none⟩
 cI := 1
 AB := some ⟨w.heap.size + 7, 0, none⟩
 cB := 4
 AO := some ⟨w.heap.size + 2, 0, none⟩
 cO := 1
 AA := fun i => if i = 0 then some ⟨w.heap.size + 3, 0, none⟩ else if i = 1 then some ⟨w.heap.size + 4, 0, none⟩ else if i = 2 then some ⟨w.heap.size + 5, 0, none⟩ else some ⟨w.heap.size + 6, 0, none⟩
 cA := fun i => if i = 2 then 2 else 1
structure FlM (w w' : World) : Prop where
 ext : Ext w w'
 sz : w.heap.size + 7 < w'.heap.size
 i0 : w'.cell? ⟨w.heap.size + 1, 0, none⟩ = some (I (-1))
 i1 : w'.cell? ⟨w.heap.size + 1, 1, none⟩ = some (I 1)
 i2 : w'.cell? ⟨w.heap.size + 1, 2, none⟩ = some (I 0)
 o0 : w'.cell? ⟨w.heap.size + 2, 0, none⟩ = some (I 2)
 a0 : w'.cell? ⟨w.heap.size + 3, 0, none⟩ = some (I 0)
 a1 : w'.cell? ⟨w.heap.size + 4, 0, none⟩ = some (I 3)
 a2 : w'.cell? ⟨w.heap.size + 5, 0, none⟩ = some (I 0)
 a3 : w'.cell? ⟨w.heap.size + 5, 1, none⟩ = some (I 1)
 a4 : w'.cell? ⟨w.heap.size + 6, 0, none⟩ = some (I 2)
 row : ∃ cur, w'.heap[w.heap.size + 7]? = some (.cells cur 79 (0, 0)) ∧ cur = #[I 0, .slice (some ⟨w.heap.size + 3, 0, none⟩) 1 1, I 0, I 0, I 0, I 0, I 6, .slice (some ⟨w.heap.size + 4, 0, none⟩) 1 1, I 1, I (-1), I 0, I 0, I 3, .slice (some ⟨w.heap.size + 5, 0, none⟩) 2 2, I 0, I 0, I 0, I 0, I 2, .slice (some ⟨w.heap.size + 6, 0, none⟩) 1 1, I 0, I 0, I 0, I 0]
abbrev flV (w : World) : Value := .agg #[.slice (some ⟨w.heap.size + 1, 0, none⟩) 1 1, .slice (some ⟨w.heap.size + 7, 0, none⟩) 4 4, .slice (some ⟨w.heap.size + 2, 0, none⟩) 1 1]
def FlR (w : World) (e : Ending) (w' : World) : Prop := e = .returned (flV w) ∧ FlM w w'
set_option maxRecDepth 100000 in
set_option maxHeartbeats 2000000 in
theorem filter_any (w : World) : Calls Tryz.prog 52 #[] w (FlR w) := by
 go_enter Tryz.func52, Tryz.ntmps52
 go_wp2_with fail
 refine bodyPost_ret (v := .agg #[.slice (some ⟨w.heap.size + 1, 0, none⟩) 1 1, .slice (some ⟨w.heap.size + 1 + 1 + 1 + 1 + 1 + 1 + 1, 0, none⟩) 4 4, .slice (some ⟨w.heap.size + 1 + 1, 0, none⟩) 1 1]) (by simp [results, Tryz.results52, go_sem]) rfl ⟨rfl, ?_⟩
 refine ⟨?_, ?_, ?_, ?_, ?_, ?_, ?_, ?_, ?_, ?_, ?_, _, ?_, rfl⟩
 ·exact (((((((Ext.alloc _ _).trans (Ext.alloc _ _)).trans (Ext.alloc _ _)).trans (Ext.alloc _ _)).trans (Ext.alloc _ _)).trans (Ext.alloc _ _)).trans (Ext.alloc _ _)).trans (Ext.alloc _ _)
 ·simp
 ·go_simp
 ·go_simp
 ·go_simp
 ·go_simp
 ·go_simp
 ·go_simp
 ·go_simp
 ·go_simp
 ·go_simp
 ·have e : ∀ (W : World) (o : Obj) (n : Nat), n = W.heap.size → (W.alloc o).heap[n]? = some o := fun W o n h => h ▸ Go.Deep.blk_alloc_new W o
  exact e _ _ _ (by simp)
theorem FlM.on {w w' w2 : World} (h : FlM w w') (e : Ext w' w2) : FlM w w2 := by
 have hs := h.sz
 obtain ⟨cur, hc, hcur⟩ := h.row
 exact ⟨h.ext.trans e, Nat.lt_of_lt_of_le hs e.size, (e.old.1 _ _ (by omega)).trans h.i0, (e.old.1 _ _ (by omega)).trans h.i1, (e.old.1 _ _ (by omega)).trans h.i2, (e.old.1 _ _ (by omega)).trans h.o0, (e.old.1 _ _ (by omega)).trans h.a0,
  (e.old.1 _ _ (by omega)).trans h.a1, (e.old.1 _ _ (by omega)).trans h.a2, (e.old.1 _ _ (by omega)).trans h.a3, (e.old.1 _ _ (by omega)).trans h.a4, cur, (e.block _ (by omega)).trans hc, hcur⟩
theorem fl_cell {w : World} {g : Nat} {cur : Array Value} {t : TypeId} (h : w.heap[g]? = some (.cells cur t (0, 0))) (j : Nat) : w.cell? ⟨g, j, none⟩ = cur[j]? := by simp [World.cell?, h]
theorem FlM.dm {w w' : World} (h : FlM w w') : Dm w' flD (flP w) := by
 have hs := h.sz
 obtain ⟨cur, hc, rfl⟩ := h.row
 have hcell := fl_cell hc
 refine ⟨fun _ => ⟨_, _, rfl, by omega, fun i hi => ?_⟩, fun _ => ⟨_, _, rfl, by omega, fun i hi => ?_⟩, fun i hi => ?_, fun _ => ⟨_, _, rfl, by omega, fun i hi => ?_⟩, by show 1 ≤ _; unfold maxLen; omega, by show 4 ≤ _; unfold maxLen; omega, by show 1 ≤ _; unfold maxLen; omega, fun i hi q => ?_, fun q => (by cases q), fun q => (by cases q)⟩
 ·obtain rfl : i = 0 := by have : i < 1 := hi; omega
  exact ⟨h.i0, h.i1, h.i2⟩
 ·have hi3 : i = 0 ∨ i = 1 ∨ i = 2 ∨ i = 3 := by have : i < 4 := hi; omega
  rcases hi3 with rfl | rfl | rfl | rfl <;> exact ⟨hcell _, hcell _, hcell _, hcell _, hcell _, hcell _⟩
 ·have hi3 : i = 0 ∨ i = 1 ∨ i = 2 ∨ i = 3 := by have : i < 4 := hi; omega
  rcases hi3 with rfl | rfl | rfl | rfl
  ·refine ⟨fun _ => ⟨_, _, rfl, by omega, fun j hj => ?_⟩, by show 1 ≤ _; unfold maxLen; omega⟩
   obtain rfl : j = 0 := by have : j < 1 := hj; omega
   exact h.a0
  ·refine ⟨fun _ => ⟨_, _, rfl, by omega, fun j hj => ?_⟩, by show 1 ≤ _; unfold maxLen; omega⟩
   obtain rfl : j = 0 := by have : j < 1 := hj; omega
   exact h.a1
  ·refine ⟨fun _ => ⟨_, _, rfl, by omega, fun j hj => ?_⟩, by show 2 ≤ _; unfold maxLen; omega⟩
   have hj2 : j = 0 ∨ j = 1 := by have : j < 2 := hj; omega
   rcases hj2 with rfl | rfl
   ·exact h.a2
   ·exact h.a3
  ·refine ⟨fun _ => ⟨_, _, rfl, by omega, fun j hj => ?_⟩, by show 1 ≤ _; unfold maxLen; omega⟩
   obtain rfl : j = 0 := by have : j < 1 := hj; omega
   exact h.a4
 ·obtain rfl : i = 0 := by have : i < 1 := hi; omega
  exact h.o0
 ·have hi3 : i = 0 ∨ i = 1 ∨ i = 2 ∨ i = 3 := by have : i < 4 := hi; omega
  rcases hi3 with rfl | rfl | rfl | rfl <;> cases q
theorem fl_ints : (⟨lo2 (ofI (-2) 0) (ofI 2 0), hi2 (ofI (-2) 0) (ofI 2 0)⟩ : IV) = itI flD 2 3 0 := by kernel_rfl
set_option maxRecDepth 100000 in
set_option maxHeartbeats 4000000 in
theorem rgAwake_any (w : World) (hT : Tabs w) : Calls Tryz.prog 11 #[] w fun e w' => e = .returned (.bool true) ∧ Ext w w' := by
 have HIN : Hid (∀ w1 w2, FlM w1 w2 → Ext w w1 → Calls Tryz.prog 22 #[flV w1, I 2] w2 (fun e w' => ∃ b o c R, e = .returned (.tuple #[.slice (some ⟨b, o, none⟩) 1 c, .nilIface]) ∧ LnI w' (some ⟨b, o, none⟩) 1 R (itI flD 2 3) ∧ Ext w2 w')) := fun w1 w2 h x => by
  have := Infer_run h.dm (hT.ext (x.trans h.ext)) fl_chk 2 (by omega) (by omega) 3 (by omega) (fun k hk => by
   have h3 : k = 0 ∨ k = 1 ∨ k = 2 := by omega
   rcases h3 with rfl | rfl | rfl
   ·exact fl_go0
   ·exact fl_go1
   ·exact fl_go2) (fun q => by have := q.2.2; rw [fl_sm3] at this; cases this)
  refine Calls.mono this fun e w' hh => ?_
  obtain ⟨hh, hx⟩ := hh
  rcases hh with ⟨q, _⟩ | ⟨_, q, _⟩ | ⟨_, _, _, A, c, R, h1, h2⟩
  ·rw [fl_ub3] at q; cases q
  ·exact absurd fl_ev3 q
  ·rw [fl_del] at h1 h2
   obtain ⟨b, o, hA, _⟩ := h2.rn (by omega)
   subst hA
   exact ⟨b, o, c, R, h1, h2, hx⟩
 have HCL : Hid (∀ w1 w2 b o c R, FlM w1 w2 → Ext w w1 → LnI w2 (some ⟨b, o, none⟩) 1 R (itI flD 2 3) → Calls Tryz.prog 15 #[flV w1, .slice (some ⟨b, o, none⟩) 1 c] w2 (fun e w' => e = .returned (.tuple #[.bool true, .nilIface]) ∧ Ext w2 w')) := fun w1 w2 b o c R h x l => by
  have hz : evE flD 1 (fun _ => true) (itI flD 2 3) = 0 := by have := fl_ev3; unfold evK at this; rwa [fl_del] at this
  have := Closed_ok (ci := c) h.dm (hT.ext (x.trans h.ext)) fl_chk l.rn (fun k hk => ElI.of (l.el k hk)) hz
  rw [fl_cl] at this; exact this
 have HII : Hid (∀ w', Ext w w' → Calls Tryz.prog 53 #[I (-2), I 2] w' (fun e w'' => ∃ r : RI, e = .returned r.v ∧ CnI w'' r (itI flD 2 3 0) ∧ Ext w' w'')) := fun w' x => (riints_any (-2) 2 (by omega) (by omega) (by omega) (by omega)).mono fun e w'' h => by
  have e1 : End (ofI (-2) 0) := ⟨ofI_ok _ _, Nat.le_trans (len_mono (mkD_m_le _ _ _)) (Nat.le_trans (len_le (n := 2) (by decide)) (by decide))⟩
  have e2 : End (ofI 2 0) := ⟨ofI_ok _ _, Nat.le_trans (len_mono (mkD_m_le _ _ _)) (Nat.le_trans (len_le (n := 2) (by decide)) (by decide))⟩
  obtain ⟨A, c, B, k, h1, h2, _, h3⟩ := IvRes.cn (a := lo2 (ofI (-2) 0) (ofI 2 0)) (b := hi2 (ofI (-2) 0) (ofI 2 0)) h (end_min e1 e2) (end_max e1 e2) (gd_two e1 e2).2.2
  refine ⟨_, h1, ?_, h3⟩
  rw [← fl_ints]; exact h2
 go_enter Tryz.func11, Tryz.ntmps11
 go_upto_region 3 with (first
  | (have hg := X2; clear hg; go_at_call 52; (with_reducible refine (filter_any _).mono ?_); rintro e3 w3 ⟨rfl, m3⟩; have M3 := Lib.hid m3; have L3 := Lib.hid (L2.out.ext m3.ext); clear m3)
  | (go_at_call 52; (with_reducible refine (filter_any _).mono ?_); rintro e1 w1 ⟨rfl, m1⟩; have M1 := Lib.hid m1; clear m1)
  | (go_at_call 22; (with_reducible refine (HIN.out _ _ M1.out (Ext.refl _)).mono ?_); rintro e2 w2 ⟨b, o, c, R, rfl, l2, x2⟩; have L2 := Lib.hid l2; have X2 := Lib.hid (M1.out.ext.trans x2); clear l2 x2)
  | (go_at_call 15; (with_reducible refine (HCL.out _ _ _ _ _ _ M3.out X2.out L3.out).mono ?_); rintro e4 w4 ⟨rfl, x4⟩; have L4 := Lib.hid (L3.out.ext x4); have X4 := Lib.hid (X2.out.trans (M3.out.ext.trans x4)); clear x4))
 obtain ⟨b', o', hbo, hlt, hc⟩ := L4.out.rn (by omega)
 injection hbo with hbo
 injection hbo with q1 q2
 subst q1; subst q2
 obtain ⟨x0, x1, x2, x3, x4, x5⟩ := hc 0 (by omega)
 simp only [Nat.zero_mul, Nat.add_zero] at x0 x1 x2 x3 x4 x5
 have HSM : Hid (∀ w' r, Ext w4 w' → CnI w' r (itI flD 2 3 0) → Calls Tryz.prog 40 #[(R 0).v, r.v] w' fun e w'' => e = .returned (.bool true) ∧ Ext w' w'') := fun w' r x h => same_ri ((L4.out.el 0 (by omega)).ext x) h
 have HS : Hid (∀ w', Ext w4 w' → w'.cell? ⟨b, o, none⟩ = some (.bool (R 0).lo.neg) ∧ w'.cell? ⟨b, o + 1, none⟩ = some (.slice (R 0).lo.A (R 0).lo.n (R 0).lo.c) ∧ w'.cell? ⟨b, o + 2, none⟩ = some (I (R 0).lo.den) ∧ w'.cell? ⟨b, o + 3, none⟩ = some (.bool (R 0).hi.neg) ∧ w'.cell? ⟨b, o + 4, none⟩ = some (.slice (R 0).hi.A (R 0).hi.n (R 0).hi.c) ∧ w'.cell? ⟨b, o + 5, none⟩ = some (I (R 0).hi.den)) := fun w' x =>
  ⟨(x.old.1 _ _ hlt).trans x0, (x.old.1 _ _ hlt).trans x1, (x.old.1 _ _ hlt).trans x2, (x.old.1 _ _ hlt).trans x3, (x.old.1 _ _ hlt).trans x4, (x.old.1 _ _ hlt).trans x5⟩
 clear hc hT HIN HCL L4 L3 L2 M1 M3 hlt
 generalize R 0 = rr at *
 obtain ⟨⟨n1, A1, l1, e1, d1⟩, ⟨n2, A2, l2, e2, d2⟩⟩ := rr
 simp only at HS x0 x1 x2 x3 x4 x5
 go_region_held3 (fun w' => w'.cell? ⟨b, o, none⟩ = some (.bool n1) ∧ w'.cell? ⟨b, o + 1, none⟩ = some (.slice A1 l1 e1) ∧ w'.cell? ⟨b, o + 2, none⟩ = some (I d1) ∧ w'.cell? ⟨b, o + 3, none⟩ = some (.bool n2) ∧ w'.cell? ⟨b, o + 4, none⟩ = some (.slice A2 l2 e2) ∧ w'.cell? ⟨b, o + 5, none⟩ = some (I d2)) (first | with_reducible assumption | exact HS.out _ ex2)
  (first
   | (go_at_call 53; (with_reducible refine (HII.out _ (X4.out.trans ex2)).mono ?_); rintro e5 w5 ⟨r5, rfl, cn5, hx5⟩; obtain ⟨⟨m1, B1, k1, c1, f1⟩, ⟨m2, B2, k2, c2, f2⟩⟩ := r5; have CN5 := Lib.hid cn5; clear cn5)
   | (go_at_call 40; (with_reducible refine (HSM.out _ ⟨⟨m1, B1, k1, c1, f1⟩, ⟨m2, B2, k2, c2, f2⟩⟩ ex2 (CN5.out.ext ex2)).mono ?_); rintro e6 w6 ⟨rfl, hx6⟩))
 all_goals
  go_wp2_with fail
  go_ret
  exact ⟨rfl, X4.out.trans ex2⟩
end
section
open Go Go.RowKit
def ivs (F : Nat → Int) : Nat → List Value
 | 0 => []
 | n + 1 => ivs F n ++ [I (F n)]
theorem ivs_len (F : Nat → Int) (n : Nat) : (ivs F n).length = n := by
 induction n with
 | zero => rfl
 | succ n ih => show (ivs F n ++ [_]).length = _; rw [List.length_append, ih]; rfl
theorem ivs_get {F : Nat → Int} {n k : Nat} (hk : k < n) : (ivs F n)[k]? = some (I (F k)) := by
 induction n with
 | zero => omega
 | succ n ih =>
  show (ivs F n ++ [_])[k]? = _
  by_cases e : k = n
  ·subst e; rw [List.getElem?_append_right (by rw [ivs_len]; exact Nat.le_refl _), ivs_len]; simp
  ·rw [List.getElem?_append_left (by rw [ivs_len]; omega)]; exact ih (by omega)
def OwI (w : World) (base : Nat) (A : Option Addr) (c : Nat) (F : Nat → Int) (n : Nat) : Prop := w.ownsRow base 3 1 (.slice A n c) n (ivs F n)
theorem OwI.nil (w : World) (base : Nat) (F : Nat → Int) : OwI w base none 0 F 0 := World.ownsRow_nil _ _ _ _
theorem OwI.lt {w : World} {base c n : Nat} {A : Option Addr} {F : Nat → Int} (h : OwI w base A c F n) : ∀ k, (Value.slice A n c).ownBlock = some k → base ≤ k ∧ k < w.heap.size := World.ownsRow.lt h
theorem OwI.ext {w w' : World} {base c n : Nat} {A : Option Addr} {F : Nat → Int} (h : OwI w base A c F n) (e : Ext w w') : OwI w' base A c F n :=
 World.ownsRow.kept h (ext_gr e) (by cases (Value.slice A n c).ownBlock <;> simp)
theorem OwI.ri {w : World} {base c n : Nat} {A : Option Addr} {F : Nat → Int} (h : OwI w base A c F n) : Ri w A n F := fun h0 => by
 have h' := h
 obtain ⟨_, ⟨e, hz⟩ | ⟨g, cap, cur, e, _⟩⟩ := h'
 ·omega
 ·injection e with e1 e2 e3
  subst e1
  refine ⟨g, 0, rfl, (h.lt g rfl).2, fun k hk => ?_⟩
  rw [Nat.zero_add, World.ownsRow.cellAt h k (by omega)]; exact ivs_get hk
theorem OwI.blk {w : World} {base c n : Nat} {A : Option Addr} {F : Nat → Int} (h : OwI w base A c F n) : ∀ b o, A = some ⟨b, o, none⟩ → base ≤ b ∧ b < w.heap.size := fun b o hA => by
 have h' := h
 obtain ⟨_, ⟨e, _⟩ | ⟨g, cap, cur, e, _⟩⟩ := h'
 ·injection e with e1; rw [hA] at e1; cases e1
 ·injection e with e1 e2 e3
  rw [hA] at e1
  injection e1 with e1
  injection e1 with e1 e4
  subst e1; subst e4; subst hA
  exact h.lt b rfl
theorem appI {ops : Array Oper} {rest : List Oper} {o : Oper} {a : Act} {w : World} {Q : Exit → Act → World → Prop} (hgd : o.guard = none) (s x : Operand) (ho : o.op = .call { callee := .builtin .append, args := #[s, x], argTypes := #[24, 24] })
  (base : Nat) (A : Option Addr) (c : Nat) (F : Nat → Int) (n : Nat) (hs : a.eval s = .slice A n c) (hown : OwI w base A c F n) (ad : Addr) (cx : Nat) (hx : a.eval x = .slice (some ad) 1 cx) (hv : w.cell? ad = some (I (F n)))
  (hn : n ≤ 1099511627) (hbase : base ≤ w.heap.size)
  (h : ∀ g cap w', OwI w' base (some ⟨g, 0, none⟩) cap F (n + 1) → w.grownBy w' (Value.slice A n c).ownBlock → ((Value.slice A n c).ownBlock = some g ∨ g = w.heap.size) → g < w'.heap.size →
   wpList Tryz.prog ops Q rest (a.put o.dst (.slice (some ⟨g, 0, none⟩) (n + 1) cap)) w') : wpList Tryz.prog ops Q (o :: rest) a w := by
 obtain ⟨i, hi, hz, h1, hb⟩ := info_parts infoI
 exact wpList_append_lies w hgd s x _ ho base 3 i _ 1 8 Tryz.underlying24 hi hz h1 hb rfl (by omega) _ n _ hs hown ad 1 cx [I (F n)] hx rfl (news1' hv) (by simp [Value.oneCell']) (by omega) (by unfold maxLen; omega) (by omega) hbase w.heap.size rfl h
theorem OwI.row {w : World} {base c n : Nat} {A : Option Addr} {F : Nat → Int} (h : OwI w base A c F n) (h0 : 0 < n) : ∃ g N f, A = some ⟨g, 0, none⟩ ∧ base ≤ g ∧ n ≤ N ∧ w.rowIs g 3 N f ∧ ∀ i, i < n → f i = I (F i) := by
 have h' := h
 obtain ⟨_, ⟨e, hz⟩ | ⟨g, cap, cur, e, hb, hg, hnc, hcm, hcs, ht⟩⟩ := h'
 ·omega
 ·injection e with e1 e2 e3
  subst e1; subst e3
  refine ⟨g, cur.size, fun i => cur.getD i (I 0), rfl, hb, by omega, ⟨cur, hg, rfl, fun i hi => ?_⟩, fun i hi => ?_⟩
  ·simp [Array.getD_eq_getD_getElem?, Array.getElem?_eq_getElem hi]
  ·have hc := World.ownsRow.cellAt h i (by omega)
   rw [ivs_get hi] at hc
   have hk := cell_of_row w g i cur 3 (0, 0) hg
   rw [hc] at hk
   show cur.getD i (I 0) = _
   rw [Array.getD_eq_getD_getElem?, ← hk]; rfl
end
section
open Go Go.RowKit
def clq (n lo hi : Int) : Int := if n < lo then lo else if hi < n then hi else n
theorem clq_bd (n lo hi : Int) (h : lo ≤ hi) : lo ≤ clq n lo hi ∧ clq n lo hi ≤ hi := by unfold clq; split <;> (try split) <;> omega
set_option maxHeartbeats 400000 in
theorem clipq_any (n lo hi : Int) (w : World) (hl : lo ≤ hi) : Calls Tryz.prog 86 #[I n, I lo, I hi] w fun e w' => e = .returned (I (clq n lo hi)) ∧ Ext w w' := by
 have H : Hid (max lo (min n hi) = clq n lo hi) := by
  show _ = _; unfold clq
  by_cases h : n < lo
  ·rw [if_pos h]; omega
  ·rw [if_neg h]
   by_cases h2 : hi < n
   ·rw [if_pos h2]; omega
   ·rw [if_neg h2]; omega
 clear hl
 go_enter Tryz.func86, Tryz.ntmps86
 go_wp2
 go_ret
 exact ⟨by rw [← H.out]; rfl, Ext.refl _⟩
def inpV (D : Dia) (m : Nat) (IN : Nat → Int) : Nat → Int := fun i => clq (if i < m then IN i else 0) (D.P i).lo (D.P i).hi
def InpR (D : Dia) (m : Nat) (IN : Nat → Int) (w : World) (e : Ending) (w' : World) : Prop := ∃ A c, e = .returned (.slice A D.ni c) ∧ OwI w' w.heap.size A c (inpV D m IN) D.ni ∧ Ext w w'
theorem inp_rng {D : Dia} (ok : OkD D) (m : Nat) (IN : Nat → Int) : ∀ j, j < D.ni → (D.P j).lo ≤ inpV D m IN j ∧ inpV D m IN j ≤ (D.P j).hi := fun j hj => clq_bd _ _ _ (by have := ok.port hj; omega)
set_option maxRecDepth 100000 in
set_option maxHeartbeats 1000000 in
theorem inputs_any {w : World} {D : Dia} {p : Pl} {Ai : Option Addr} {m ci : Nat} {IN : Nat → Int} (d : Dm w D p) (hni : D.ni ≤ 1000) (hP : ∀ j, j < D.ni → (D.P j).lo ≤ (D.P j).hi) (r : Ri w Ai m IN) (hm : m ≤ maxLen) :
  Calls Tryz.prog 30 #[dgv D p, .slice Ai m ci] w (InpR D m IN w) := by
 unfold maxLen at hm
 obtain ⟨W1, hW1⟩ : ∃ W1, W1 = w.alloc (.cells #[.slice p.AI D.ni p.cI, .slice p.AB D.nb p.cB, .slice p.AO D.no p.cO] 26) := ⟨_, rfl⟩
 have hE : Ext w W1 := by rw [hW1]; exact Ext.alloc _ _
 have hbd : Bd W1 w.heap.size D p := by rw [hW1]; exact Bd.new _ _ _ _
 have HD := Lib.hid (d.ext hE); have HE := Lib.hid hE; have HI := Lib.hid (r.ext hE); have HP := Lib.hid hP
 have hz1 : W1.heap.size = w.heap.size + 1 := by rw [hW1]; simp
 obtain ⟨c0, c1, c2⟩ := hbd
 clear d hE r hP
 go_enter Tryz.func30, Tryz.ntmps30
 go_upto_region 1 with fail
 rw [← hW1]; clear hW1
 go_wp2_with fail
 clear c0 c1 c2
 go_loopw [5, 12] (fun s5 s wr => ∃ (j : Nat) (A : Option Addr) (c : Nat), j ≤ D.ni ∧ s = I j ∧ s5 = .slice A j c ∧ Hid (OwI wr w.heap.size A c (inpV D m IN) j ∧ Ext W1 wr ∧ ∀ k, (Value.slice A j c).ownBlock = some k → W1.heap.size ≤ k)) (fun _ s _ => D.ni - (intOf s).toNat)
 case atStart => exact ⟨0, none, 0, Nat.zero_le _, rfl, rfl, OwI.nil _ _ _, Ext.refl _, fun k hk => by cases hk⟩
 case round =>
  obtain ⟨j, A, c, hj, rfl, rfl, H⟩ := hrel
  by_cases hlt : j < D.ni
  ·obtain ⟨bp, op, hp, hbp, hcp⟩ := (HD.out.ext H.out.2.1).ports (by omega)
   obtain ⟨y0, y1, y2⟩ := hcp j hlt
   have hlt' : (j : Int) < (D.ni : Int) := by omega
   have hle := HP.out j hlt
   have hsz := H.out.2.1.size
   obtain ⟨v, hv⟩ : ∃ v, inpV D m IN j = v := ⟨_, rfl⟩
   have HV := Lib.hid hv
   by_cases hjm : j < m
   ·obtain ⟨bi, oi, rfl, hbi, hci⟩ := HI.out.ext H.out.2.1 (by omega)
    have xi := hci j hjm
    have hjm' : (j : Int) < (m : Int) := by omega
    have HCL : Hid (∀ w', Calls Tryz.prog 86 #[I (IN j), I (D.P j).lo, I (D.P j).hi] w' fun e w'' => e = .returned (I v) ∧ Ext w' w'') := fun w' => by
     have := clipq_any (IN j) (D.P j).lo (D.P j).hi w' hle
     rw [← hv]; unfold inpV; rw [if_pos hjm]; exact this
    clear hcp hci hv hle
    generalize (D.P j).lo = plo at *
    generalize (D.P j).hi = phi at *
    generalize (D.P j).fr = pfr at *
    generalize IN j = iy at *
    go_wp2_with (first
     | (go_at_call 86; (with_reducible refine (HCL.out _).mono ?_); rintro e1 w2 ⟨rfl, h2⟩; have HX2 := Lib.hid (show Ext wr w2 from ex2); have hs2 := HX2.out.size)
     | (at_builtin; refine appI rfl _ _ rfl w.heap.size A c (inpV D m IN) j rfl (H.out.1.ext (HX2.out.trans (Ext.alloc _ _))) _ _ rfl (by rw [HV.out]; go_simp) (by omega) (by simp; omega) ?_; intro g cap w3 hown hgrow hat hltg; have HN := Lib.hid hown; have HG := Lib.hid (Below.grown (H.out.2.1.trans (HX2.out.trans (Ext.alloc _ _))) hgrow (H.out.2.1.trans (HX2.out.trans (Ext.alloc _ _))).size H.out.2.2); have HQ : Hid (W1.heap.size ≤ g) := (by rcases hat with h | h; exact H.out.2.2 g h; (rw [h]; exact (H.out.2.1.trans (HX2.out.trans (Ext.alloc _ _))).size)); clear hown hgrow hat hltg))
    (try rw [← hp])
    go_roundw
    case rel => exact ⟨j + 1, _, _, by omega, by go_num, rfl, HN.out, HG.out, fun k hk => by injection hk with hk; subst hk; exact HQ.out⟩
    case measure => simp [intOf]; omega
   ·have hjm' : ¬ (j : Int) < (m : Int) := by omega
    have HCL : Hid (∀ w', Calls Tryz.prog 86 #[I 0, I (D.P j).lo, I (D.P j).hi] w' fun e w'' => e = .returned (I v) ∧ Ext w' w'') := fun w' => by
     have := clipq_any 0 (D.P j).lo (D.P j).hi w' hle
     rw [← hv]; unfold inpV; rw [if_neg hjm]; exact this
    clear hcp hv hle
    generalize (D.P j).lo = plo at *
    generalize (D.P j).hi = phi at *
    generalize (D.P j).fr = pfr at *
    go_wp2_with (first
     | (go_at_call 86; (with_reducible refine (HCL.out _).mono ?_); rintro e1 w2 ⟨rfl, h2⟩; have HX2 := Lib.hid (show Ext wr w2 from ex2); have hs2 := HX2.out.size)
     | (at_builtin; refine appI rfl _ _ rfl w.heap.size A c (inpV D m IN) j rfl (H.out.1.ext (HX2.out.trans (Ext.alloc _ _))) _ _ rfl (by rw [HV.out]; go_simp) (by omega) (by simp; omega) ?_; intro g cap w3 hown hgrow hat hltg; have HN := Lib.hid hown; have HG := Lib.hid (Below.grown (H.out.2.1.trans (HX2.out.trans (Ext.alloc _ _))) hgrow (H.out.2.1.trans (HX2.out.trans (Ext.alloc _ _))).size H.out.2.2); have HQ : Hid (W1.heap.size ≤ g) := (by rcases hat with h | h; exact H.out.2.2 g h; (rw [h]; exact (H.out.2.1.trans (HX2.out.trans (Ext.alloc _ _))).size)); clear hown hgrow hat hltg))
    (try rw [← hp])
    go_roundw
    case rel => exact ⟨j + 1, _, _, by omega, by go_num, rfl, HN.out, HG.out, fun k hk => by injection hk with hk; subst hk; exact HQ.out⟩
    case measure => simp [intOf]; omega
  ·obtain rfl : j = D.ni := by omega
   go_wp2_with fail
   go_ret
   exact ⟨A, c, rfl, H.out.1, HE.out.trans H.out.2.1⟩
end
end Go.Proofs.YtgnngldlgcdnfaaGreatDoor
