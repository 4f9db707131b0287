/- The law ScalesChoose: it returns true. -/
import Derived.Test.YtgnngldlgcdnfaaGreatDoorScl
import Derived.Test.YtgnngldlgcdnfaaGreatDoorScm
import Derived.Test.YtgnngldlgcdnfaaGreatDoorScp
namespace Go.Proofs.YtgnngldlgcdnfaaGreatDoor
open Go Go.RowKit
attribute [local go_sem ↓] Go.wp_at_zero Go.wp_at_succ

theorem chX_0 {D : Dia} (hk : chk D = 0) (n : Nat) (b : Nat → Bool) (S : Nat → IV) : chX D n b S = chE D.nb n b S := by unfold chX; rw [if_neg (by omega)]
theorem chX_n {D : Dia} (hk : chk D ≠ 0) (n : Nat) (b : Nat → Bool) (S : Nat → IV) : chX D n b S = chk D := by unfold chX; rw [if_pos hk]
theorem ChP.no {D : Dia} {n : Nat} {b : Nat → Bool} {S : Nat → IV} {w : World} {e : Ending} {w' : World} (h : ChP D n b S w e w') (hz : chX D n b S ≠ 0) : e = .returned (.tuple #[.slice none 0 0, .iface 48 (I (chX D n b S))]) ∧ Ext w w' := by
  rcases h with ⟨_, h2⟩ | ⟨h1, _⟩
  · exact h2
  · exact absurd h1 hz
theorem UnP.no {D : Dia} {n : Nat} {b : Nat → Bool} {S : Nat → IV} {w : World} {e : Ending} {w' : World} (h : UnP D n b S w e w') (hz : chX D n b S ≠ 0) : e = .returned (.tuple #[.slice none 0 0, .iface 48 (I (chX D n b S))]) ∧ Ext w w' := by
  rcases h with ⟨_, h2⟩ | ⟨h1, _⟩
  · exact h2
  · exact absurd h1 hz
set_option maxRecDepth 100000 in
set_option maxHeartbeats 4000000 in
theorem choose_any {w : World} {D : Dia} {p : Pl} {A B : Option Addr} {n c m e : Nat} {R : Nat → RI} {F G : Nat → Nat → Nat} {X : Nat → Int} (d : Dm w D p) (hT : Tabs w) (st : StsI w A n R F G) (_ : Ri w B m X) (hm : m ≤ maxLen) (_ : ∀ i, i < m → in64 (X i)) :
    Calls Tryz.prog 9 #[dgv D p, rgv A n c B m e] w fun e w' => e = .returned (.bool true) ∧ Ext w w' := by
  have hn := st.hn
  unfold maxLen at hm hn
  obtain ⟨W1, hW1⟩ : ∃ W1, W1 = (w.alloc (.cells #[.slice p.AI D.ni p.cI, .slice p.AB D.nb p.cB, .slice p.AO D.no p.cO] 26)).alloc (.cells #[.slice A n c, .slice B m e] 86) := ⟨_, rfl⟩
  have hE : Ext w W1 := by rw [hW1]; exact (Ext.alloc _ _).trans (Ext.alloc _ _)
  have HBX : Hid (∀ w', Ext W1 w' → (w'.cell? ⟨w.heap.size, 0, none⟩ = some (.slice p.AI D.ni p.cI) ∧ w'.cell? ⟨w.heap.size, 1, none⟩ = some (.slice p.AB D.nb p.cB) ∧ w'.cell? ⟨w.heap.size, 2, none⟩ = some (.slice p.AO D.no p.cO)) ∧ w'.cell? ⟨w.heap.size + 1, 0, none⟩ = some (.slice A n c) ∧ w'.cell? ⟨w.heap.size + 1, 1, none⟩ = some (.slice B m e)) := fun w' x => by
    have hl : w.heap.size + 1 < W1.heap.size := by rw [hW1]; simp
    have hb : Bd w' w.heap.size D p := by
      have h0 : Bd W1 w.heap.size D p := by rw [hW1]; exact (Bd.new _ _ _ _).ext (Ext.alloc _ _)
      exact h0.ext x
    exact ⟨⟨hb.c0, hb.c1, hb.c2⟩, (x.old.1 _ _ hl).trans (by rw [hW1]; go_simp), (x.old.1 _ _ hl).trans (by rw [hW1]; go_simp)⟩
  have HA : Hid (∀ w', Ext W1 w' → Calls Tryz.prog 41 #[] w' fun e w'' => e = .returned (.bool true) ∧ Ext w' w'') := fun w' x => scAwake_any w' (hT.ext (hE.trans x))
  have HLI : Hid (∀ w', Ext W1 w' → Calls Tryz.prog 42 #[dgv D p, rgv A n c B m e] w' fun e w'' => e = .returned (.bool (litS D n R m)) ∧ Ext w' w'') := fun w' x => scLight_any (d.ext (hE.trans x)) (st.rn.ext (hE.trans x)) (by unfold maxLen; omega) (by unfold maxLen; omega)
  have HE := Lib.hid hE
  obtain ⟨⟨c0, c1, c2⟩, c3, c4⟩ := HBX.out _ (Ext.refl _)
  have HRC : Hid (∀ w', Ext W1 w' → Calls Tryz.prog 16 #[dgv D p] w' fun e w'' => e = .returned (I (chk D)) ∧ Ext w' w'') := fun w' e => rcheck_any (d.ext (hE.trans e)) (hT.ext (hE.trans e))
  cases hlt : litS D n R m with
  | false =>
    rw [hlt] at HLI
    clear d hT st hE hlt HRC
    go_enter Tryz.func9, Tryz.ntmps9
    go_upto_region 1 with fail
    rw [← hW1]; clear hW1
    go_wp2_with (first
        | (go_at_call 41; (with_reducible refine (HA.out _ (by (with_reducible (repeat (first | exact Ext.refl _ | assumption | (refine Ext.toSet ?_ (by omega)) | refine Ext.toAlloc ?_ | refine Ext.toDrew ?_ | refine Ext.toDrewN ?_ | refine Ext.trans ?_ (by assumption)))); (first | done | fail "no"))).mono ?_); rintro e1 w1 ⟨rfl, h1⟩; (try clear c0 c1 c2 c3 c4); obtain ⟨⟨c0, c1, c2⟩, c3, c4⟩ := HBX.out w1 (by (with_reducible (repeat (first | exact Ext.refl _ | assumption | (refine Ext.toSet ?_ (by omega)) | refine Ext.toAlloc ?_ | refine Ext.toDrew ?_ | refine Ext.toDrewN ?_ | refine Ext.trans ?_ (by assumption)))); (first | done | fail "no")))
        | (go_at_call 42; (with_reducible refine (HLI.out _ (by (with_reducible (repeat (first | exact Ext.refl _ | assumption | (refine Ext.toSet ?_ (by omega)) | refine Ext.toAlloc ?_ | refine Ext.toDrew ?_ | refine Ext.toDrewN ?_ | refine Ext.trans ?_ (by assumption)))); (first | done | fail "no"))).mono ?_); rintro e1 w2 ⟨rfl, h2⟩; (try clear c0 c1 c2 c3 c4); obtain ⟨⟨c0, c1, c2⟩, c3, c4⟩ := HBX.out w2 (by (with_reducible (repeat (first | exact Ext.refl _ | assumption | (refine Ext.toSet ?_ (by omega)) | refine Ext.toAlloc ?_ | refine Ext.toDrew ?_ | refine Ext.toDrewN ?_ | refine Ext.trans ?_ (by assumption)))); (first | done | fail "no"))))
    go_ret
    exact ⟨rfl, HE.out.trans (by (with_reducible (repeat (first | exact Ext.refl _ | assumption | (refine Ext.toSet ?_ (by omega)) | refine Ext.toAlloc ?_ | refine Ext.toDrew ?_ | refine Ext.toDrewN ?_ | refine Ext.trans ?_ (by assumption)))); (first | done | fail "no"))⟩
  | true =>
    obtain ⟨hn100, el⟩ := st.el (litS_t' hlt).2.1
    have hlen := (lea_t (litS_t' hlt).2.1).2
    obtain ⟨S, hS⟩ : ∃ S, ivS R F G = S := ⟨_, rfl⟩
    obtain ⟨b, hb⟩ : ∃ b, ivO R F G = b := ⟨_, rfl⟩
    rw [hS, hb] at el
    rw [hlt] at HLI
    have HCH : Hid (∀ w', Ext W1 w' → Calls Tryz.prog 43 #[dgv D p, .slice A n c] w' (ChP D n b S w')) := fun w' x => Choose_any (d.ext (hE.trans x)) (hT.ext (hE.trans x)) (by omega) (st.rn.ext (hE.trans x)) fun k hk => ((el k hk).ext (hE.trans x)).toElI
    have HUN : Hid (∀ w', Ext W1 w' → Calls Tryz.prog 44 #[dgv D p, .slice A n c] w' (UnP D n b S w')) := fun w' x => Uniform_any (d.ext (hE.trans x)) (hT.ext (hE.trans x)) (by omega) (st.rn.ext (hE.trans x)) fun k hk => ((el k hk).ext (hE.trans x)).toElI
    by_cases hk : chk D = 0
    · have hls : ∀ k, k < n → b k = true → len (mgD (S k)).m ≤ 140 := fun k hk hb => by
        have a := hlen k hk; have cn := (el k hk).cn hb
        have a1 := cn.lo.n; have a2 := cn.hi.n
        exact mgD_len (by omega) (by omega)
      have HRCH : Hid (∀ w', Ext W1 w' → Calls Tryz.prog 45 #[dgv D p, .slice A n c] w' (RcP D n b S w')) := fun w' x => rChoose_any (d.ext (hE.trans x)) (by omega) (st.rn.ext (hE.trans x)) (fun k hk => (el k hk).ext (hE.trans x)) hls
      have HRUN : Hid (∀ w', Ext W1 w' → Calls Tryz.prog 46 #[dgv D p, .slice A n c] w' (RuP D n b S w')) := fun w' x => rUniform_any (d.ext (hE.trans x)) (by omega) (st.rn.ext (hE.trans x)) (fun k hk => (el k hk).ext (hE.trans x)) hls
      rw [hk] at HRC
      have HN : Hid (n ≤ 1000) := by show _ ≤ _; omega
      by_cases hz : chE D.nb n b S = 0
      · have hz' : chX D n b S = 0 := by rw [chX_0 hk]; exact hz
        have HC2 : Hid (∀ w', Ext W1 w' → Calls Tryz.prog 43 #[dgv D p, .slice A n c] w' fun e w'' => ∃ g, e = .returned (.tuple #[.slice (some ⟨g, 0, none⟩) n n, .nilIface]) ∧ RnM w' w'' g n (chF S)) := fun w' x => (HCH.out w' x).mono fun e w'' hh => by
          rcases hh with ⟨h1, _⟩ | ⟨_, h2⟩
          · exact absurd hz' h1
          · exact h2
        have HU2 : Hid (∀ w', Ext W1 w' → Calls Tryz.prog 44 #[dgv D p, .slice A n c] w' fun e w'' => ∃ A' c', e = .returned (.tuple #[.slice A' n c', .nilIface]) ∧ Ri w'' A' n (fun _ => leS S n) ∧ Ext w' w'') := fun w' x => (HUN.out w' x).mono fun e w'' hh => by
          rcases hh with ⟨h1, _⟩ | ⟨_, h2⟩
          · exact absurd hz' h1
          · exact h2
        have HRC2 : Hid (∀ w', Ext W1 w' → Calls Tryz.prog 45 #[dgv D p, .slice A n c] w' fun e w'' => ∃ A' c', e = .returned (.tuple #[.slice A' n c', I 0]) ∧ Ri w'' A' n (chF S) ∧ Ext w' w'') := fun w' x => (HRCH.out w' x).mono fun e w'' hh => by
          rcases hh with ⟨h1, _⟩ | ⟨_, A', c', g, h1, _, h3, h4⟩
          · exact absurd hz h1
          · exact ⟨A', c', h1, h3.ri, h4⟩
        have HRU2 : Hid (∀ w', Ext W1 w' → Calls Tryz.prog 46 #[dgv D p, .slice A n c] w' fun e w'' => ∃ A' c', e = .returned (.tuple #[.slice A' n c', I 0]) ∧ Ri w'' A' n (fun _ => leS S n) ∧ Ext w' w'') := fun w' x => (HRUN.out w' x).mono fun e w'' hh => by
          rcases hh with ⟨h1, _⟩ | ⟨_, h2⟩
          · exact absurd hz h1
          · exact h2
        obtain ⟨v, hv⟩ : ∃ v, leS S n = v := ⟨_, rfl⟩
        rw [hv] at HU2 HRU2
        clear d hT st hE hlt el hlen hls hk hz hz' hv HCH HUN HRCH HRUN
        go_enter Tryz.func9, Tryz.ntmps9
        go_upto_region 1 with fail
        rw [← hW1]; clear hW1
        go_wp2_with (first
            | (go_at_call 41; (with_reducible refine (HA.out _ (by (with_reducible (repeat (first | exact Ext.refl _ | assumption | (refine Ext.toSet ?_ (by omega)) | refine Ext.toAlloc ?_ | refine Ext.toDrew ?_ | refine Ext.toDrewN ?_ | refine Ext.trans ?_ (by assumption)))); (first | done | fail "no"))).mono ?_); rintro e1 w1 ⟨rfl, h1⟩; (try clear c0 c1 c2 c3 c4); obtain ⟨⟨c0, c1, c2⟩, c3, c4⟩ := HBX.out w1 (by (with_reducible (repeat (first | exact Ext.refl _ | assumption | (refine Ext.toSet ?_ (by omega)) | refine Ext.toAlloc ?_ | refine Ext.toDrew ?_ | refine Ext.toDrewN ?_ | refine Ext.trans ?_ (by assumption)))); (first | done | fail "no")))
            | (go_at_call 42; (with_reducible refine (HLI.out _ (by (with_reducible (repeat (first | exact Ext.refl _ | assumption | (refine Ext.toSet ?_ (by omega)) | refine Ext.toAlloc ?_ | refine Ext.toDrew ?_ | refine Ext.toDrewN ?_ | refine Ext.trans ?_ (by assumption)))); (first | done | fail "no"))).mono ?_); rintro e1 w2 ⟨rfl, h2⟩; (try clear c0 c1 c2 c3 c4); obtain ⟨⟨c0, c1, c2⟩, c3, c4⟩ := HBX.out w2 (by (with_reducible (repeat (first | exact Ext.refl _ | assumption | (refine Ext.toSet ?_ (by omega)) | refine Ext.toAlloc ?_ | refine Ext.toDrew ?_ | refine Ext.toDrewN ?_ | refine Ext.trans ?_ (by assumption)))); (first | done | fail "no")))
            | (go_at_call 16; (with_reducible refine (HRC.out _ (by (with_reducible (repeat (first | exact Ext.refl _ | assumption | (refine Ext.toSet ?_ (by omega)) | refine Ext.toAlloc ?_ | refine Ext.toDrew ?_ | refine Ext.toDrewN ?_ | refine Ext.trans ?_ (by assumption)))); (first | done | fail "no"))).mono ?_); rintro e1 w6 ⟨rfl, h6⟩; (try clear c0 c1 c2 c3 c4); obtain ⟨⟨c0, c1, c2⟩, c3, c4⟩ := HBX.out w6 (by (with_reducible (repeat (first | exact Ext.refl _ | assumption | (refine Ext.toSet ?_ (by omega)) | refine Ext.toAlloc ?_ | refine Ext.toDrew ?_ | refine Ext.toDrewN ?_ | refine Ext.trans ?_ (by assumption)))); (first | done | fail "no")))
            | (go_at_call 43; (with_reducible refine (HC2.out _ (by (with_reducible (repeat (first | exact Ext.refl _ | assumption | (refine Ext.toSet ?_ (by omega)) | refine Ext.toAlloc ?_ | refine Ext.toDrew ?_ | refine Ext.toDrewN ?_ | refine Ext.trans ?_ (by assumption)))); (first | done | fail "no"))).mono ?_); rintro e1 w4 ⟨g, rfl, r4⟩; have R4 := Lib.hid r4.ri; have h4 := r4.ext; clear r4; (try clear c0 c1 c2 c3 c4); obtain ⟨⟨c0, c1, c2⟩, c3, c4⟩ := HBX.out w4 (by (with_reducible (repeat (first | exact Ext.refl _ | assumption | (refine Ext.toSet ?_ (by omega)) | refine Ext.toAlloc ?_ | refine Ext.toDrew ?_ | refine Ext.toDrewN ?_ | refine Ext.trans ?_ (by assumption)))); (first | done | fail "no")))
            | (go_at_call 44; (with_reducible refine (HU2.out _ (by (with_reducible (repeat (first | exact Ext.refl _ | assumption | (refine Ext.toSet ?_ (by omega)) | refine Ext.toAlloc ?_ | refine Ext.toDrew ?_ | refine Ext.toDrewN ?_ | refine Ext.trans ?_ (by assumption)))); (first | done | fail "no"))).mono ?_); rintro e1 w5 ⟨A5, c5, rfl, r5, h5⟩; have R5 := Lib.hid r5; clear r5; (try clear c0 c1 c2 c3 c4); obtain ⟨⟨c0, c1, c2⟩, c3, c4⟩ := HBX.out w5 (by (with_reducible (repeat (first | exact Ext.refl _ | assumption | (refine Ext.toSet ?_ (by omega)) | refine Ext.toAlloc ?_ | refine Ext.toDrew ?_ | refine Ext.toDrewN ?_ | refine Ext.trans ?_ (by assumption)))); (first | done | fail "no")))
            | (go_at_call 45; (with_reducible refine (HRC2.out _ (by (with_reducible (repeat (first | exact Ext.refl _ | assumption | (refine Ext.toSet ?_ (by omega)) | refine Ext.toAlloc ?_ | refine Ext.toDrew ?_ | refine Ext.toDrewN ?_ | refine Ext.trans ?_ (by assumption)))); (first | done | fail "no"))).mono ?_); rintro e1 w7 ⟨A7, c7, rfl, r7, h7⟩; have R7 := Lib.hid r7; clear r7; (try clear c0 c1 c2 c3 c4); obtain ⟨⟨c0, c1, c2⟩, c3, c4⟩ := HBX.out w7 (by (with_reducible (repeat (first | exact Ext.refl _ | assumption | (refine Ext.toSet ?_ (by omega)) | refine Ext.toAlloc ?_ | refine Ext.toDrew ?_ | refine Ext.toDrewN ?_ | refine Ext.trans ?_ (by assumption)))); (first | done | fail "no")))
            | (go_at_call 46; (with_reducible refine (HRU2.out _ (by (with_reducible (repeat (first | exact Ext.refl _ | assumption | (refine Ext.toSet ?_ (by omega)) | refine Ext.toAlloc ?_ | refine Ext.toDrew ?_ | refine Ext.toDrewN ?_ | refine Ext.trans ?_ (by assumption)))); (first | done | fail "no"))).mono ?_); rintro e1 w8 ⟨A8, c8, rfl, r8, h8⟩; have R8 := Lib.hid r8; clear r8; (try clear c0 c1 c2 c3 c4); obtain ⟨⟨c0, c1, c2⟩, c3, c4⟩ := HBX.out w8 (by (with_reducible (repeat (first | exact Ext.refl _ | assumption | (refine Ext.toSet ?_ (by omega)) | refine Ext.toAlloc ?_ | refine Ext.toDrew ?_ | refine Ext.toDrewN ?_ | refine Ext.trans ?_ (by assumption)))); (first | done | fail "no")))
            | (go_at_call 17; (with_reducible refine (num_nil _).mono ?_); rintro e1 w9 ⟨rfl, h9⟩)
            | (go_at_call 47; (with_reducible refine (ints_true (X := chF S) HN.out (R4.out.ext (by (with_reducible (repeat (first | exact Ext.refl _ | assumption | (refine Ext.toSet ?_ (by omega)) | refine Ext.toAlloc ?_ | refine Ext.toDrew ?_ | refine Ext.toDrewN ?_ | refine Ext.trans ?_ (by assumption)))); (first | done | fail "no"))) (R7.out.ext (by (with_reducible (repeat (first | exact Ext.refl _ | assumption | (refine Ext.toSet ?_ (by omega)) | refine Ext.toAlloc ?_ | refine Ext.toDrew ?_ | refine Ext.toDrewN ?_ | refine Ext.trans ?_ (by assumption)))); (first | done | fail "no")))).mono ?_); rintro e1 w10 ⟨rfl, h10⟩)
            | (go_at_call 47; (with_reducible refine (ints_true (X := fun _ => v) HN.out (R5.out.ext (by (with_reducible (repeat (first | exact Ext.refl _ | assumption | (refine Ext.toSet ?_ (by omega)) | refine Ext.toAlloc ?_ | refine Ext.toDrew ?_ | refine Ext.toDrewN ?_ | refine Ext.trans ?_ (by assumption)))); (first | done | fail "no"))) (R8.out.ext (by (with_reducible (repeat (first | exact Ext.refl _ | assumption | (refine Ext.toSet ?_ (by omega)) | refine Ext.toAlloc ?_ | refine Ext.toDrew ?_ | refine Ext.toDrewN ?_ | refine Ext.trans ?_ (by assumption)))); (first | done | fail "no")))).mono ?_); rintro e1 w11 ⟨rfl, h11⟩))
        go_ret
        exact ⟨by simp, HE.out.trans (by (with_reducible (repeat (first | exact Ext.refl _ | assumption | (refine Ext.toSet ?_ (by omega)) | refine Ext.toAlloc ?_ | refine Ext.toDrew ?_ | refine Ext.toDrewN ?_ | refine Ext.trans ?_ (by assumption)))); (first | done | fail "no"))⟩
      · have hz' : chX D n b S ≠ 0 := by rw [chX_0 hk]; exact hz
        have HC2 : Hid (∀ w', Ext W1 w' → Calls Tryz.prog 43 #[dgv D p, .slice A n c] w' fun e w'' => e = .returned (.tuple #[.slice none 0 0, .iface 48 (I (chE D.nb n b S))]) ∧ Ext w' w'') := fun w' x => (HCH.out w' x).mono fun e w'' hh => by
          have := hh.no hz'; rwa [chX_0 hk] at this
        have HU2 : Hid (∀ w', Ext W1 w' → Calls Tryz.prog 44 #[dgv D p, .slice A n c] w' fun e w'' => e = .returned (.tuple #[.slice none 0 0, .iface 48 (I (chE D.nb n b S))]) ∧ Ext w' w'') := fun w' x => (HUN.out w' x).mono fun e w'' hh => by
          have := hh.no hz'; rwa [chX_0 hk] at this
        have HRC2 : Hid (∀ w', Ext W1 w' → Calls Tryz.prog 45 #[dgv D p, .slice A n c] w' fun e w'' => e = .returned (.tuple #[.slice none 0 0, I (chE D.nb n b S)]) ∧ Ext w' w'') := fun w' x => (HRCH.out w' x).mono fun e w'' hh => by
          rcases hh with ⟨_, h2⟩ | ⟨h1, _⟩
          · exact h2
          · exact absurd h1 hz
        have HRU2 : Hid (∀ w', Ext W1 w' → Calls Tryz.prog 46 #[dgv D p, .slice A n c] w' fun e w'' => e = .returned (.tuple #[.slice none 0 0, I (chE D.nb n b S)]) ∧ Ext w' w'') := fun w' x => (HRUN.out w' x).mono fun e w'' hh => by
          rcases hh with ⟨_, h2⟩ | ⟨h1, _⟩
          · exact h2
          · exact absurd h1 hz
        clear d hT st hE hlt el hlen hls hk hz hz' HCH HUN HRCH HRUN
        generalize chE D.nb n b S = k at *
        have HNM := Lib.hid (num_err k)
        have HI0 : Hid (∀ w', Calls Tryz.prog 47 #[.slice none 0 0, .slice none 0 0] w' fun e w'' => e = .returned (.bool true) ∧ Ext w' w'') := fun w' => ints_true (n := 0) (X := fun _ => 0) (by omega) Ri.none_ Ri.none_
        go_enter Tryz.func9, Tryz.ntmps9
        go_upto_region 1 with fail
        rw [← hW1]; clear hW1
        go_wp2_with (first
            | (go_at_call 41; (with_reducible refine (HA.out _ (by (with_reducible (repeat (first | exact Ext.refl _ | assumption | (refine Ext.toSet ?_ (by omega)) | refine Ext.toAlloc ?_ | refine Ext.toDrew ?_ | refine Ext.toDrewN ?_ | refine Ext.trans ?_ (by assumption)))); (first | done | fail "no"))).mono ?_); rintro e1 w1 ⟨rfl, h1⟩; (try clear c0 c1 c2 c3 c4); obtain ⟨⟨c0, c1, c2⟩, c3, c4⟩ := HBX.out w1 (by (with_reducible (repeat (first | exact Ext.refl _ | assumption | (refine Ext.toSet ?_ (by omega)) | refine Ext.toAlloc ?_ | refine Ext.toDrew ?_ | refine Ext.toDrewN ?_ | refine Ext.trans ?_ (by assumption)))); (first | done | fail "no")))
            | (go_at_call 42; (with_reducible refine (HLI.out _ (by (with_reducible (repeat (first | exact Ext.refl _ | assumption | (refine Ext.toSet ?_ (by omega)) | refine Ext.toAlloc ?_ | refine Ext.toDrew ?_ | refine Ext.toDrewN ?_ | refine Ext.trans ?_ (by assumption)))); (first | done | fail "no"))).mono ?_); rintro e1 w2 ⟨rfl, h2⟩; (try clear c0 c1 c2 c3 c4); obtain ⟨⟨c0, c1, c2⟩, c3, c4⟩ := HBX.out w2 (by (with_reducible (repeat (first | exact Ext.refl _ | assumption | (refine Ext.toSet ?_ (by omega)) | refine Ext.toAlloc ?_ | refine Ext.toDrew ?_ | refine Ext.toDrewN ?_ | refine Ext.trans ?_ (by assumption)))); (first | done | fail "no")))
            | (go_at_call 16; (with_reducible refine (HRC.out _ (by (with_reducible (repeat (first | exact Ext.refl _ | assumption | (refine Ext.toSet ?_ (by omega)) | refine Ext.toAlloc ?_ | refine Ext.toDrew ?_ | refine Ext.toDrewN ?_ | refine Ext.trans ?_ (by assumption)))); (first | done | fail "no"))).mono ?_); rintro e1 w6 ⟨rfl, h6⟩; (try clear c0 c1 c2 c3 c4); obtain ⟨⟨c0, c1, c2⟩, c3, c4⟩ := HBX.out w6 (by (with_reducible (repeat (first | exact Ext.refl _ | assumption | (refine Ext.toSet ?_ (by omega)) | refine Ext.toAlloc ?_ | refine Ext.toDrew ?_ | refine Ext.toDrewN ?_ | refine Ext.trans ?_ (by assumption)))); (first | done | fail "no")))
            | (go_at_call 43; (with_reducible refine (HC2.out _ (by (with_reducible (repeat (first | exact Ext.refl _ | assumption | (refine Ext.toSet ?_ (by omega)) | refine Ext.toAlloc ?_ | refine Ext.toDrew ?_ | refine Ext.toDrewN ?_ | refine Ext.trans ?_ (by assumption)))); (first | done | fail "no"))).mono ?_); rintro e1 w4 ⟨rfl, h4⟩; (try clear c0 c1 c2 c3 c4); obtain ⟨⟨c0, c1, c2⟩, c3, c4⟩ := HBX.out w4 (by (with_reducible (repeat (first | exact Ext.refl _ | assumption | (refine Ext.toSet ?_ (by omega)) | refine Ext.toAlloc ?_ | refine Ext.toDrew ?_ | refine Ext.toDrewN ?_ | refine Ext.trans ?_ (by assumption)))); (first | done | fail "no")))
            | (go_at_call 44; (with_reducible refine (HU2.out _ (by (with_reducible (repeat (first | exact Ext.refl _ | assumption | (refine Ext.toSet ?_ (by omega)) | refine Ext.toAlloc ?_ | refine Ext.toDrew ?_ | refine Ext.toDrewN ?_ | refine Ext.trans ?_ (by assumption)))); (first | done | fail "no"))).mono ?_); rintro e1 w5 ⟨rfl, h5⟩; (try clear c0 c1 c2 c3 c4); obtain ⟨⟨c0, c1, c2⟩, c3, c4⟩ := HBX.out w5 (by (with_reducible (repeat (first | exact Ext.refl _ | assumption | (refine Ext.toSet ?_ (by omega)) | refine Ext.toAlloc ?_ | refine Ext.toDrew ?_ | refine Ext.toDrewN ?_ | refine Ext.trans ?_ (by assumption)))); (first | done | fail "no")))
            | (go_at_call 45; (with_reducible refine (HRC2.out _ (by (with_reducible (repeat (first | exact Ext.refl _ | assumption | (refine Ext.toSet ?_ (by omega)) | refine Ext.toAlloc ?_ | refine Ext.toDrew ?_ | refine Ext.toDrewN ?_ | refine Ext.trans ?_ (by assumption)))); (first | done | fail "no"))).mono ?_); rintro e1 w7 ⟨rfl, h7⟩; (try clear c0 c1 c2 c3 c4); obtain ⟨⟨c0, c1, c2⟩, c3, c4⟩ := HBX.out w7 (by (with_reducible (repeat (first | exact Ext.refl _ | assumption | (refine Ext.toSet ?_ (by omega)) | refine Ext.toAlloc ?_ | refine Ext.toDrew ?_ | refine Ext.toDrewN ?_ | refine Ext.trans ?_ (by assumption)))); (first | done | fail "no")))
            | (go_at_call 46; (with_reducible refine (HRU2.out _ (by (with_reducible (repeat (first | exact Ext.refl _ | assumption | (refine Ext.toSet ?_ (by omega)) | refine Ext.toAlloc ?_ | refine Ext.toDrew ?_ | refine Ext.toDrewN ?_ | refine Ext.trans ?_ (by assumption)))); (first | done | fail "no"))).mono ?_); rintro e1 w8 ⟨rfl, h8⟩; (try clear c0 c1 c2 c3 c4); obtain ⟨⟨c0, c1, c2⟩, c3, c4⟩ := HBX.out w8 (by (with_reducible (repeat (first | exact Ext.refl _ | assumption | (refine Ext.toSet ?_ (by omega)) | refine Ext.toAlloc ?_ | refine Ext.toDrew ?_ | refine Ext.toDrewN ?_ | refine Ext.trans ?_ (by assumption)))); (first | done | fail "no")))
            | (go_at_call 17; (with_reducible refine (HNM.out _).mono ?_); rintro e1 w9 ⟨rfl, h9⟩)
            | (go_at_call 47; (with_reducible refine (HI0.out _).mono ?_); rintro e1 w10 ⟨rfl, h10⟩))
        go_ret
        exact ⟨by simp, HE.out.trans (by (with_reducible (repeat (first | exact Ext.refl _ | assumption | (refine Ext.toSet ?_ (by omega)) | refine Ext.toAlloc ?_ | refine Ext.toDrew ?_ | refine Ext.toDrewN ?_ | refine Ext.trans ?_ (by assumption)))); (first | done | fail "no"))⟩
    · have hz' : chX D n b S ≠ 0 := by rw [chX_n hk]; exact hk
      have HC2 : Hid (∀ w', Ext W1 w' → Calls Tryz.prog 43 #[dgv D p, .slice A n c] w' fun e w'' => e = .returned (.tuple #[.slice none 0 0, .iface 48 (I (chk D))]) ∧ Ext w' w'') := fun w' x => (HCH.out w' x).mono fun e w'' hh => by
        have := hh.no hz'; rwa [chX_n hk] at this
      have HU2 : Hid (∀ w', Ext W1 w' → Calls Tryz.prog 44 #[dgv D p, .slice A n c] w' fun e w'' => e = .returned (.tuple #[.slice none 0 0, .iface 48 (I (chk D))]) ∧ Ext w' w'') := fun w' x => (HUN.out w' x).mono fun e w'' hh => by
        have := hh.no hz'; rwa [chX_n hk] at this
      have hk1 : (chk D != 0) = true := by simpa using hk
      clear d hT st hE hlt el hlen hk hz' HCH HUN
      generalize chk D = k at *
      have HNM := Lib.hid (num_err k)
      go_enter Tryz.func9, Tryz.ntmps9
      go_upto_region 1 with fail
      rw [← hW1]; clear hW1
      go_wp2_with (first
          | (go_at_call 41; (with_reducible refine (HA.out _ (by (with_reducible (repeat (first | exact Ext.refl _ | assumption | (refine Ext.toSet ?_ (by omega)) | refine Ext.toAlloc ?_ | refine Ext.toDrew ?_ | refine Ext.toDrewN ?_ | refine Ext.trans ?_ (by assumption)))); (first | done | fail "no"))).mono ?_); rintro e1 w1 ⟨rfl, h1⟩; (try clear c0 c1 c2 c3 c4); obtain ⟨⟨c0, c1, c2⟩, c3, c4⟩ := HBX.out w1 (by (with_reducible (repeat (first | exact Ext.refl _ | assumption | (refine Ext.toSet ?_ (by omega)) | refine Ext.toAlloc ?_ | refine Ext.toDrew ?_ | refine Ext.toDrewN ?_ | refine Ext.trans ?_ (by assumption)))); (first | done | fail "no")))
          | (go_at_call 42; (with_reducible refine (HLI.out _ (by (with_reducible (repeat (first | exact Ext.refl _ | assumption | (refine Ext.toSet ?_ (by omega)) | refine Ext.toAlloc ?_ | refine Ext.toDrew ?_ | refine Ext.toDrewN ?_ | refine Ext.trans ?_ (by assumption)))); (first | done | fail "no"))).mono ?_); rintro e1 w2 ⟨rfl, h2⟩; (try clear c0 c1 c2 c3 c4); obtain ⟨⟨c0, c1, c2⟩, c3, c4⟩ := HBX.out w2 (by (with_reducible (repeat (first | exact Ext.refl _ | assumption | (refine Ext.toSet ?_ (by omega)) | refine Ext.toAlloc ?_ | refine Ext.toDrew ?_ | refine Ext.toDrewN ?_ | refine Ext.trans ?_ (by assumption)))); (first | done | fail "no")))
          | (go_at_call 16; (with_reducible refine (HRC.out _ (by (with_reducible (repeat (first | exact Ext.refl _ | assumption | (refine Ext.toSet ?_ (by omega)) | refine Ext.toAlloc ?_ | refine Ext.toDrew ?_ | refine Ext.toDrewN ?_ | refine Ext.trans ?_ (by assumption)))); (first | done | fail "no"))).mono ?_); rintro e1 w6 ⟨rfl, h6⟩; (try clear c0 c1 c2 c3 c4); obtain ⟨⟨c0, c1, c2⟩, c3, c4⟩ := HBX.out w6 (by (with_reducible (repeat (first | exact Ext.refl _ | assumption | (refine Ext.toSet ?_ (by omega)) | refine Ext.toAlloc ?_ | refine Ext.toDrew ?_ | refine Ext.toDrewN ?_ | refine Ext.trans ?_ (by assumption)))); (first | done | fail "no")))
          | (go_at_call 43; (with_reducible refine (HC2.out _ (by (with_reducible (repeat (first | exact Ext.refl _ | assumption | (refine Ext.toSet ?_ (by omega)) | refine Ext.toAlloc ?_ | refine Ext.toDrew ?_ | refine Ext.toDrewN ?_ | refine Ext.trans ?_ (by assumption)))); (first | done | fail "no"))).mono ?_); rintro e1 w4 ⟨rfl, h4⟩; (try clear c0 c1 c2 c3 c4); obtain ⟨⟨c0, c1, c2⟩, c3, c4⟩ := HBX.out w4 (by (with_reducible (repeat (first | exact Ext.refl _ | assumption | (refine Ext.toSet ?_ (by omega)) | refine Ext.toAlloc ?_ | refine Ext.toDrew ?_ | refine Ext.toDrewN ?_ | refine Ext.trans ?_ (by assumption)))); (first | done | fail "no")))
          | (go_at_call 44; (with_reducible refine (HU2.out _ (by (with_reducible (repeat (first | exact Ext.refl _ | assumption | (refine Ext.toSet ?_ (by omega)) | refine Ext.toAlloc ?_ | refine Ext.toDrew ?_ | refine Ext.toDrewN ?_ | refine Ext.trans ?_ (by assumption)))); (first | done | fail "no"))).mono ?_); rintro e1 w5 ⟨rfl, h5⟩; (try clear c0 c1 c2 c3 c4); obtain ⟨⟨c0, c1, c2⟩, c3, c4⟩ := HBX.out w5 (by (with_reducible (repeat (first | exact Ext.refl _ | assumption | (refine Ext.toSet ?_ (by omega)) | refine Ext.toAlloc ?_ | refine Ext.toDrew ?_ | refine Ext.toDrewN ?_ | refine Ext.trans ?_ (by assumption)))); (first | done | fail "no")))
          | (go_at_call 17; (with_reducible refine (HNM.out _).mono ?_); rintro e1 w9 ⟨rfl, h9⟩))
      go_ret
      exact ⟨by simp, HE.out.trans (by (with_reducible (repeat (first | exact Ext.refl _ | assumption | (refine Ext.toSet ?_ (by omega)) | refine Ext.toAlloc ?_ | refine Ext.toDrew ?_ | refine Ext.toDrewN ?_ | refine Ext.trans ?_ (by assumption)))); (first | done | fail "no"))⟩
end Go.Proofs.YtgnngldlgcdnfaaGreatDoor
