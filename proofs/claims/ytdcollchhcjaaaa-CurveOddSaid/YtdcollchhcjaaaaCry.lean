/- The law CurveScales: it returns true. -/
import Derived.Test.YtdcollchhcjaaaaCrx
namespace Go.Proofs.Ytdcollchhcjaaaa
open Go Go.RowKit

set_option maxRecDepth 100000 in
set_option maxHeartbeats 1000000 in
theorem ints_true {w : World} {A B : Option Addr} {n c e : Nat} {X : Nat → Int} (hn : n ≤ 1000) (ra : Ri w A n X) (rb : Ri w B n X) :
    Calls Try.prog 41 #[.slice A n c, .slice B n e] w fun e' w' => e' = .returned (.bool true) ∧ Ext w w' := by
  by_cases h0 : n = 0
  · subst h0
    clear ra rb
    go_enter Try.func41, Try.ntmps41
    go_wp2_with fail
    go_loopw [13] (fun s wr => s = I 0 ∧ Ext w wr) (fun _ _ => 0)
    case atStart => exact ⟨rfl, Ext.refl _⟩
    case round =>
      obtain ⟨rfl, hb⟩ := hrel
      go_wp2_with fail
      go_ret
      exact ⟨rfl, hb⟩
  · obtain ⟨ba, oa, rfl, hba, ca⟩ := ra (by omega)
    obtain ⟨bb, ob, rfl, hbb, cb⟩ := rb (by omega)
    have CA := Lib.hid ca; clear ca ra
    have CB := Lib.hid cb; clear cb rb
    have HZ := Lib.hid h0; clear h0
    go_enter Try.func41, Try.ntmps41
    go_wp2_with fail
    go_loopw [13] (fun s wr => ∃ j : Nat, j ≤ n ∧ s = I j ∧ Ext w wr) (fun s _ => n - (intOf s).toNat)
    case atStart => exact ⟨0, Nat.zero_le _, rfl, Ext.refl _⟩
    case round =>
      obtain ⟨j, hj, rfl, hb⟩ := hrel
      obtain ⟨hc, hf⟩ := hb.old
      by_cases hlt : j < n
      · have xa := (hb.old.1 _ _ hba).trans (CA.out j hlt)
        have xb := (hb.old.1 _ _ hbb).trans (CB.out j hlt)
        clear hc hf
        go_wp2_with fail
        go_quiet (fail)
        go_wp2_with fail
        go_roundw
        case rel => exact ⟨j + 1, by omega, by go_num, (by repeat (first | exact Ext.refl _ | assumption | exact Ext.alloc _ _ | refine Ext.trans ?_ (by assumption) | refine Ext.trans ?_ (Ext.alloc _ _) | refine Ext.trans ?_ (Ext.drewN _ _) | refine Ext.trans ?_ (Ext.drew _)))⟩
        case measure => simp [intOf]; omega
      · obtain rfl : j = n := by omega
        go_wp2_with fail
        go_ret
        exact ⟨rfl, hb⟩

set_option maxRecDepth 100000 in
set_option maxHeartbeats 1000000 in
theorem same_true {w : World} {A B A' B' : Option Addr} {n c e c' e' : Nat} {X Y : Nat → Int} (hn : n ≤ 1000) (ra : Ri w A n X) (rb : Ri w B n Y) (ra' : Ri w A' n X) (rb' : Ri w B' n Y) :
    Calls Try.prog 29 #[cv A n c B n e, cv A' n c' B' n e'] w fun x w' => x = .returned (.bool true) ∧ Ext w w' := by
  have H1 := Lib.hid (fun w' (z : Ext w w') => ints_true (c := c) (e := c') hn (ra.ext z) (ra'.ext z))
  have H2 := Lib.hid (fun w' (z : Ext w w') => ints_true (c := e) (e := e') hn (rb.ext z) (rb'.ext z))
  clear ra rb ra' rb' hn
  go_enter Try.func29, Try.ntmps29
  go_upto_region 1 with fail
  have hb : Ext w ((w.alloc (.cells #[.slice A n c, .slice B n e] 24)).alloc (.cells #[.slice A' n c', .slice B' n e'] 24)) := (Ext.alloc w _).trans (Ext.alloc _ _)
  go_wp2_with (first
    | (go_at_call 41; (with_reducible refine (H1.out _ (by repeat (first | exact Ext.refl _ | assumption | exact Ext.alloc _ _ | refine Ext.trans ?_ (by assumption) | refine Ext.trans ?_ (Ext.alloc _ _) | refine Ext.trans ?_ (Ext.drewN _ _) | refine Ext.trans ?_ (Ext.drew _)))).mono ?_); rintro e1 w1 ⟨rfl, hb1⟩; obtain ⟨hc1, hf1⟩ := hb1.old; replace hb := Ext.trans hb hb1; clear hb1)
    | (go_at_call 41; (with_reducible refine (H2.out _ (by repeat (first | exact Ext.refl _ | assumption | exact Ext.alloc _ _ | refine Ext.trans ?_ (by assumption) | refine Ext.trans ?_ (Ext.alloc _ _) | refine Ext.trans ?_ (Ext.drewN _ _) | refine Ext.trans ?_ (Ext.drew _)))).mono ?_); rintro e1 w1 ⟨rfl, hb1⟩; replace hb := Ext.trans hb hb1; clear hb1))
  go_ret
  exact ⟨rfl, hb⟩

set_option maxRecDepth 100000 in
set_option maxHeartbeats 1000000 in
theorem scale_bad {w : World} {A B : Option Addr} {n c m e : Nat} {X Y : Nat → Int} {k : Int} (hz : chk n m X Y = k) (hk : k ≠ 0) (ra : Ri w A n X) (rb : Ri w B m Y) (hn : n ≤ maxLen) (hm : m ≤ maxLen) (d : Int) :
    Calls Try.prog 32 #[cv A n c B m e, I d] w fun e' w' => e' = .returned (.tuple #[cv none 0 0 none 0 0, .iface 51 (I k)]) ∧ Ext w w' := by
  have HC := Lib.hid (fun w' (he : Ext w w') => check_bad (c := c) (e := e) hz hk ra rb hn hm w' he)
  clear hz hk ra rb hn hm
  go_enter Try.func32, Try.ntmps32
  go_wp2_with (go_at_call 17; (refine (HC.out _ ((Ext.alloc _ _).trans (Ext.alloc _ _))).mono ?_); rintro e1 w1 ⟨rfl, hb⟩; obtain ⟨⟨r0, r1⟩, rr⟩ := (B2.new' (w.alloc (.cells #[.slice A n c, .slice B m e] 24)) (.slice none 0 0) (.slice none 0 0) 24 (by simp : w.heap.size + 1 = _)).ext hb; have Q := Lib.hid (box_set (.slice none 0 0) (.slice none 0 0) r0 r1))
  exact bodyPost_ret (v := .tuple #[cv none 0 0 none 0 0, .iface 51 (I k)]) (by simp [results, Try.results32, go_sem, Q.out.1, Q.out.2]) rfl ⟨rfl, ((((Ext.alloc w _).trans (Ext.alloc _ _)).trans hb).set (by show w.heap.size ≤ w.heap.size + 1; omega) _).set (by show w.heap.size ≤ w.heap.size + 1; omega) _⟩
set_option maxRecDepth 100000 in
set_option maxHeartbeats 1000000 in
theorem scale_out {w : World} {ba oa c bb ob e n : Nat} {X Y : Nat → Int} (hz : chk n n X Y = 0) (r : Cur w ba oa bb ob n X Y) (a : Int) (h : a < 0 ∨ 131072 < a) :
    Calls Try.prog 32 #[cw ba oa c bb ob e n, I a] w fun e' w' => e' = .returned (.tuple #[cv none 0 0 none 0 0, .iface 51 (I 3)]) ∧ Ext w w' := by
  have HC := Lib.hid (fun w' (he : Ext w w') => check_ok (c := c) (e := e) hz r w' he)
  clear hz r
  have hd : (decide (a < 0) = true) ∨ (decide (a < 0) = false ∧ 131072 < a) := by by_cases q : a < 0 <;> simp [q]; omega
  clear h
  rcases hd with h | ⟨h, h2⟩
  all_goals
    simp only [decide_eq_true_eq, decide_eq_false_iff_not] at h
    go_enter Try.func32, Try.ntmps32
    go_wp2_with (go_at_call 17; (refine (HC.out _ ((Ext.alloc _ _).trans (Ext.alloc _ _))).mono ?_); rintro e1 w1 ⟨rfl, hb⟩; obtain ⟨⟨r0, r1⟩, rr⟩ := (B2.new' (w.alloc (.cells #[.slice (some ⟨ba, oa, none⟩) n c, .slice (some ⟨bb, ob, none⟩) n e] 24)) (.slice none 0 0) (.slice none 0 0) 24 (by simp : w.heap.size + 1 = _)).ext hb; have Q := Lib.hid (box_set (.slice none 0 0) (.slice none 0 0) r0 r1))
    exact bodyPost_ret (v := .tuple #[cv none 0 0 none 0 0, .iface 51 (I 3)]) (by simp [results, Try.results32, go_sem, Q.out.1, Q.out.2]) rfl ⟨rfl, ((((Ext.alloc w _).trans (Ext.alloc _ _)).trans hb).set (by show w.heap.size ≤ w.heap.size + 1; omega) _).set (by show w.heap.size ≤ w.heap.size + 1; omega) _⟩

theorem Ri.setBox {w : World} {g k n : Nat} {f : Nat → Int} {z0 z1 : Value} (h : Ri w (some ⟨g, 0, none⟩) n f) (hn : 0 < n) (e : g ≠ k) : Ri ((w.setCell ⟨k, 0, none⟩ z0).setCell ⟨k, 1, none⟩ z1) (some ⟨g, 0, none⟩) n f :=
  h.far hn (box_far _ _ _ _ _ e)
/-- Two boxes and a third one. -/
structure B23 (w : World) (b0 b1 b2 : Nat) (u0 v0 u1 v1 u2 v2 : Value) : Prop where
  x : B2 w b0 u0 v0
  y : B2 w b1 u1 v1
  z : B2 w b2 u2 v2
  ne : b0 < b1 ∧ b1 < b2
theorem B23.ext {w w' : World} {b0 b1 b2 : Nat} {u0 v0 u1 v1 u2 v2 : Value} (h : B23 w b0 b1 b2 u0 v0 u1 v1 u2 v2) (x : Ext w w') : B23 w' b0 b1 b2 u0 v0 u1 v1 u2 v2 := ⟨h.x.ext x, h.y.ext x, h.z.ext x, h.ne⟩
theorem B23.set {w : World} {b0 b1 b2 : Nat} {u0 v0 u1 v1 u2 v2 : Value} (h : B23 w b0 b1 b2 u0 v0 u1 v1 u2 v2) (z0 z1 : Value) : B23 ((w.setCell ⟨b2, 0, none⟩ z0).setCell ⟨b2, 1, none⟩ z1) b0 b1 b2 u0 v0 u1 v1 z0 z1 :=
  ⟨h.x.grown' (box_far _ _ _ _ _ (by have := h.ne; omega)), h.y.grown' (box_far _ _ _ _ _ (by have := h.ne; omega)), h.z.set01 _ _, h.ne⟩

set_option maxRecDepth 100000 in
set_option maxHeartbeats 1000000 in
theorem scales_long {w : World} (A B : Option Addr) (n c m e : Nat) (a : Int) (h : 100 < n ∨ 100 < m) (hn : n ≤ maxLen) (hm : m ≤ maxLen) :
    Calls Try.prog 13 #[cv A n c B m e, I a] w fun e' w' => e' = .returned (.bool true) ∧ Ext w w' := by
  have HL := Lib.hid (fun w' => large_t A B n c m e w' h hn hm)
  clear h
  go_enter Try.func13, Try.ntmps13
  go_wp2_with (first
    | (go_at_call 14; refine (awake_any _).mono ?_; rintro e w1 ⟨rfl, hb1⟩; (first | replace hb := Ext.trans hb hb1 | replace hb := Ext.trans (Ext.trans hb (Ext.drewN _ _)) hb1 | replace hb := Ext.trans (Ext.trans hb (Ext.alloc _ _)) hb1 | have hb := hb1); clear hb1; obtain ⟨hc1, hf1⟩ := hb.old)
    | (go_at_call 15; (with_reducible refine (HL.out _).mono ?_); rintro e1 w1 ⟨rfl, hb1⟩; replace hb := Ext.trans hb hb1; clear hb1; obtain ⟨hc1, hf1⟩ := hb.old))
  go_ret
  exact ⟨rfl, (by repeat (first | exact Ext.refl _ | assumption | exact Ext.alloc _ _ | refine Ext.trans ?_ (by assumption) | refine Ext.trans ?_ (Ext.alloc _ _) | refine Ext.trans ?_ (Ext.drewN _ _) | refine Ext.trans ?_ (Ext.drew _)))⟩

/-- A function returns an empty curve and er. -/
abbrev EmF (f : FuncId) (args : Array Value) (er : Value) (w : World) : Prop := Calls Try.prog f args w fun e' w' => e' = .returned (.tuple #[cv none 0 0 none 0 0, er]) ∧ Ext w w'

set_option maxRecDepth 100000 in
set_option maxHeartbeats 1000000 in
theorem scales_no {w : World} {A B : Option Addr} {n c m e : Nat} {X Y : Nat → Int} {k : Int} (hz : chk n m X Y = k) (hk : k ≠ 0) (ra : Ri w A n X) (rb : Ri w B m Y) (hn : n ≤ 100) (hm : m ≤ 100) (a : Int) :
    Calls Try.prog 13 #[cv A n c B m e, I a] w fun e' w' => e' = .returned (.bool true) ∧ Ext w w' := by
  have hn' : n ≤ maxLen := by unfold maxLen; omega
  have hm' : m ≤ maxLen := by unfold maxLen; omega
  have HL := Lib.hid (fun w' => large_f A B n c m e w' hn hm)
  have HC := Lib.hid (fun w' (he : Ext w w') => scale_bad (c := c) (e := e) hz hk (ra.ext he) (rb.ext he) hn' hm' a)
  have HR := Lib.hid (fun w' (he : Ext w w') => rcheck_any (c := c) (e := e) (ra.ext he) (rb.ext he) hn' hm')
  rw [hz] at HR
  have HE := Lib.hid (fun w' => same_true (w := w') (A := none) (B := none) (A' := none) (B' := none) (n := 0) (c := 0) (e := 0) (c' := 0) (e' := 0) (X := X) (Y := X) (by omega) Ri.none_ Ri.none_ Ri.none_ Ri.none_)
  clear hn' hm' hn hm ra rb hz
  have hd : decide (k = 0) = false := by simpa using hk
  have hq : (k != 0) = true := by simpa using hk
  go_enter Try.func13, Try.ntmps13
  go_wp2_with (first
    | (go_at_call 14; refine (awake_any _).mono ?_; rintro e w1 ⟨rfl, hb1⟩; (first | replace hb := Ext.trans hb hb1 | replace hb := Ext.trans (Ext.trans hb (Ext.drewN _ _)) hb1 | replace hb := Ext.trans (Ext.trans hb (Ext.alloc _ _)) hb1 | have hb := hb1); clear hb1; obtain ⟨hc1, hf1⟩ := hb.old)
    | (go_at_call 15; (with_reducible refine (HL.out _).mono ?_); rintro e1 w1 ⟨rfl, hb1⟩; replace hb := Ext.trans hb hb1; clear hb1; obtain ⟨hc1, hf1⟩ := hb.old)
    | (go_at_call 32; (with_reducible refine (HC.out _ ((Ext.alloc _ _).trans hb)).mono ?_); rintro e1 w3 ⟨rfl, hx3⟩; have x2 := (B2.new w (.slice A n c) (.slice B m e) 24).ext (hb.trans hx3); have HE3 := Lib.hid (((Ext.alloc w _).trans hb).trans hx3); have qx2 := x2; obtain ⟨⟨c0, c1⟩, cf⟩ := qx2; have l3 := x2.lt; clear hc1 hf1 hb hx3)
    | (go_at_call 18; (with_reducible refine (HR.out _ (HE3.out.trans (Ext.alloc _ _))).mono ?_); rintro e1 w4 ⟨rfl, hx4⟩; have x5 := (B2.new w3 (.slice none 0 0) (.slice none 0 0) 24).ext hx4; have y2 := (x2.ext (Ext.alloc _ _)).ext hx4; have HE4 := Lib.hid ((HE3.out.trans (Ext.alloc _ _)).trans hx4); have qx5 := x5; obtain ⟨⟨d0, d1⟩, df⟩ := qx5; have qy2 := y2; obtain ⟨⟨f0, f1⟩, ff⟩ := qy2; have l4 := x5.lt; clear c0 c1 cf hx4)
    | (go_at_call 16; (with_reducible refine (num_err _ _).mono ?_); rintro e1 w5 ⟨rfl, hx5⟩; have z8 := (B2.new w4 (.slice none 0 0) (.slice none 0 0) 24).ext hx5; have z5 := (x5.ext (Ext.alloc _ _)).ext hx5; have HE5 := Lib.hid ((HE4.out.trans (Ext.alloc _ _)).trans hx5); have qz8 := z8; obtain ⟨⟨g0, g1⟩, gf⟩ := qz8; have qz5 := z5; obtain ⟨⟨h0, h1⟩, hf⟩ := qz5; clear d0 d1 df f0 f1 ff hx5)
    | (go_at_call 29; (with_reducible refine (HE.out _).mono ?_); rintro e1 w6 ⟨rfl, hx6⟩; have HE6 := Lib.hid (HE5.out.trans hx6); clear hx6))
  go_ret
  exact ⟨rfl, HE6.out⟩

set_option maxRecDepth 100000 in
set_option maxHeartbeats 1000000 in
theorem scales_err {w : World} {ba oa c bb ob e n : Nat} {X Y : Nat → Int} (hz : chk n n X Y = 0) (r : Cur w ba oa bb ob n X Y) (a : Int)
    (hs : ∀ w', Ext w w' → EmF 32 #[cw ba oa c bb ob e n, I a] (.iface 51 (I 3)) w') (hr : ∀ w', Ext w w' → EmF 33 #[cw ba oa c bb ob e n, I a] (I 3) w') :
    Calls Try.prog 13 #[cw ba oa c bb ob e n, I a] w fun e' w' => e' = .returned (.bool true) ∧ Ext w w' := by
  have HL := Lib.hid (fun w' => large_ok (ba := ba) (oa := oa) (c := c) (bb := bb) (ob := ob) (e := e) hz w')
  have HC := Lib.hid hs
  have HS := Lib.hid hr
  have HR := Lib.hid (fun w' (he : Ext w w') => rcheck_ok (c := c) (e := e) hz r w' he)
  have HE := Lib.hid (fun w' => same_true (w := w') (A := none) (B := none) (A' := none) (B' := none) (n := 0) (c := 0) (e := 0) (c' := 0) (e' := 0) (X := X) (Y := X) (by omega) Ri.none_ Ri.none_ Ri.none_ Ri.none_)
  clear hs hr hz r
  go_enter Try.func13, Try.ntmps13
  go_wp2_with (first
    | (go_at_call 14; refine (awake_any _).mono ?_; rintro e w1 ⟨rfl, hb1⟩; (first | replace hb := Ext.trans hb hb1 | replace hb := Ext.trans (Ext.trans hb (Ext.drewN _ _)) hb1 | replace hb := Ext.trans (Ext.trans hb (Ext.alloc _ _)) hb1 | have hb := hb1); clear hb1; obtain ⟨hc1, hf1⟩ := hb.old)
    | (go_at_call 15; (with_reducible refine (HL.out _).mono ?_); rintro e1 w1 ⟨rfl, hb1⟩; replace hb := Ext.trans hb hb1; clear hb1; obtain ⟨hc1, hf1⟩ := hb.old)
    | (go_at_call 32; (with_reducible refine (HC.out _ ((Ext.alloc _ _).trans hb)).mono ?_); rintro e1 w3 ⟨rfl, hx3⟩; have x2 := (B2.new w (.slice (some ⟨ba, oa, none⟩) n c) (.slice (some ⟨bb, ob, none⟩) n e) 24).ext (hb.trans hx3); have HE3 := Lib.hid (((Ext.alloc w _).trans hb).trans hx3); have qx2 := x2; obtain ⟨⟨c0, c1⟩, cf⟩ := qx2; have l3 := x2.lt; clear hc1 hf1 hb hx3)
    | (go_at_call 18; (with_reducible refine (HR.out _ (HE3.out.trans (Ext.alloc _ _))).mono ?_); rintro e1 w4 ⟨rfl, hx4⟩; have x5 := (B2.new w3 (.slice none 0 0) (.slice none 0 0) 24).ext hx4; have y2 := (x2.ext (Ext.alloc _ _)).ext hx4; have HE4 := Lib.hid ((HE3.out.trans (Ext.alloc _ _)).trans hx4); have qx5 := x5; obtain ⟨⟨d0, d1⟩, df⟩ := qx5; have qy2 := y2; obtain ⟨⟨f0, f1⟩, ff⟩ := qy2; have l4 := x5.lt; have m4 := y2.lt; clear c0 c1 cf hx4)
    | (go_at_call 33; (with_reducible refine (HS.out _ (HE4.out.trans (Ext.alloc _ _))).mono ?_); rintro e1 w6 ⟨rfl, hx6⟩; have b3 := (B23.mk ((y2.ext (Ext.alloc _ (.cells #[.slice none 0 0, .slice none 0 0] 24))).ext hx6) ((x5.ext (Ext.alloc _ _)).ext hx6) ((B2.new w4 (.slice none 0 0) (.slice none 0 0) 24).ext hx6) ⟨l3, l4⟩); have b4 := b3.set (.slice none 0 0) (.slice none 0 0); have HE6 := Lib.hid ((((HE4.out.trans (Ext.alloc _ _)).trans hx6).set (by show w.heap.size ≤ w4.heap.size; omega) (.slice none 0 0) : Ext w (w6.setCell ⟨w4.heap.size, 0, none⟩ (.slice none 0 0))).set (by show w.heap.size ≤ w4.heap.size; omega) (.slice none 0 0) : Ext w ((w6.setCell ⟨w4.heap.size, 0, none⟩ (.slice none 0 0)).setCell ⟨w4.heap.size, 1, none⟩ (.slice none 0 0))); have qb3 := b3; obtain ⟨⟨⟨i0, i1⟩, if_⟩, ⟨⟨j0, j1⟩, jf⟩, ⟨⟨k0, k1⟩, kf⟩, ne1, ne2⟩ := qb3; clear d0 d1 df f0 f1 ff hx6)
    | (go_at_call 16; clear i0 i1 if_ j0 j1 jf k0 k1 kf; (with_reducible refine (num_err _ _).mono ?_); rintro e1 w7 ⟨rfl, hx7⟩; have b5 := b4.ext hx7; have HE7 := Lib.hid (HE6.out.trans hx7); have qb5 := b5; obtain ⟨⟨⟨i0, i1⟩, if_⟩, ⟨⟨j0, j1⟩, jf⟩, ⟨⟨k0, k1⟩, kf⟩, _, _⟩ := qb5; clear hx7)
    | (go_at_call 29; (with_reducible refine (HE.out _).mono ?_); rintro e1 w8 ⟨rfl, hx8⟩; have HE8 := Lib.hid (HE7.out.trans hx8); clear hx8))
  go_ret
  exact ⟨rfl, HE8.out⟩

theorem scv_one (y : Int) : scv 65536 y = y := by unfold scv; exact Int.mul_tdiv_cancel _ (by decide)

set_option maxRecDepth 100000 in
set_option maxHeartbeats 1000000 in
theorem scales_ok {w : World} {ba oa c bb ob e n : Nat} {X Y : Nat → Int} (hz : chk n n X Y = 0) (r : Cur w ba oa bb ob n X Y) (a : Int)
    (hs : ∀ w', Ext w w' → Calls Try.prog 32 #[cw ba oa c bb ob e n, I a] w' (CvOk n X (fun i => scv a (Y i)) .nilIface w')) (hr : ∀ w', Ext w w' → Calls Try.prog 33 #[cw ba oa c bb ob e n, I a] w' (CvOk n X (fun i => scv a (Y i)) (I 0) w')) :
    Calls Try.prog 13 #[cw ba oa c bb ob e n, I a] w fun e' w' => e' = .returned (.bool true) ∧ Ext w w' := by
  have k := (crv_of hz).2
  have HN := Lib.hid (show 0 < n ∧ n ≤ 1000 by have := k.two; have := k.le; omega)
  have HL := Lib.hid (fun w' => large_ok (ba := ba) (oa := oa) (c := c) (bb := bb) (ob := ob) (e := e) hz w')
  have HC := Lib.hid hs
  have HS := Lib.hid hr
  have HR := Lib.hid (fun w' (he : Ext w w') => rcheck_ok (c := c) (e := e) hz r w' he)
  have HRA := Lib.hid r.ra
  have HRB := Lib.hid r.rb
  clear hs hr hz r k
  by_cases ha : a = 65536
  · subst ha
    have HYY := Lib.hid (fun (i : Nat) (_ : i < n) => scv_one (Y i))
    go_enter Try.func13, Try.ntmps13
    go_wp2_with (first
    | (go_at_call 14; refine (awake_any _).mono ?_; rintro e w1 ⟨rfl, hb1⟩; (first | replace hb := Ext.trans hb hb1 | replace hb := Ext.trans (Ext.trans hb (Ext.drewN _ _)) hb1 | replace hb := Ext.trans (Ext.trans hb (Ext.alloc _ _)) hb1 | have hb := hb1); clear hb1; obtain ⟨hc1, hf1⟩ := hb.old)
    | (go_at_call 15; (with_reducible refine (HL.out _).mono ?_); rintro e1 w1 ⟨rfl, hb1⟩; replace hb := Ext.trans hb hb1; clear hb1; obtain ⟨hc1, hf1⟩ := hb.old)
    | (go_at_call 32; (with_reducible refine (HC.out _ ((Ext.alloc _ _).trans hb)).mono ?_); rintro e1 w3 ⟨gA, ca, gB, cb, rfl, ⟨lA, lB⟩, rA, rB, hx3⟩; have x2 := (B2.new w (.slice (some ⟨ba, oa, none⟩) n c) (.slice (some ⟨bb, ob, none⟩) n e) 24).ext (hb.trans hx3); have HE3 := Lib.hid (((Ext.alloc w _).trans hb).trans hx3); have qx2 := x2; obtain ⟨⟨c0, c1⟩, cf⟩ := qx2; have l3 := x2.lt; have RA3 := Lib.hid rA; have RB3 := Lib.hid rB; have TA := Lib.hid (rA.at_ HN.out.1).1; have TB := Lib.hid (rB.at_ HN.out.1).1; clear rA rB lA lB; clear hc1 hf1 hb hx3)
    | (go_at_call 18; (with_reducible refine (HR.out _ (HE3.out.trans (Ext.alloc _ _))).mono ?_); rintro e1 w4 ⟨rfl, hx4⟩; have x5 := (B2.new w3 (.slice (some ⟨gA, 0, none⟩) n ca) (.slice (some ⟨gB, 0, none⟩) n cb) 24).ext hx4; have y2 := (x2.ext (Ext.alloc _ _)).ext hx4; have HE4 := Lib.hid ((HE3.out.trans (Ext.alloc _ _)).trans hx4); have qx5 := x5; obtain ⟨⟨d0, d1⟩, df⟩ := qx5; have qy2 := y2; obtain ⟨⟨f0, f1⟩, ff⟩ := qy2; have l4 := x5.lt; have m4 := y2.lt; have RA4 := Lib.hid ((RA3.out.ext (Ext.alloc w3 _)).ext hx4); have RB4 := Lib.hid ((RB3.out.ext (Ext.alloc w3 _)).ext hx4); clear c0 c1 cf hx4)
    | (go_at_call 33; (with_reducible refine (HS.out _ (HE4.out.trans (Ext.alloc _ _))).mono ?_); rintro e1 w6 ⟨gS, cs, gT, ct, rfl, ⟨lS, lT⟩, rS, rT, hx6⟩; have b3 := (B23.mk ((y2.ext (Ext.alloc _ (.cells #[.slice none 0 0, .slice none 0 0] 24))).ext hx6) ((x5.ext (Ext.alloc _ _)).ext hx6) ((B2.new w4 (.slice none 0 0) (.slice none 0 0) 24).ext hx6) ⟨l3, l4⟩); have b4 := b3.set (.slice (some ⟨gS, 0, none⟩) n cs) (.slice (some ⟨gT, 0, none⟩) n ct); have HE6 := Lib.hid ((((HE4.out.trans (Ext.alloc _ _)).trans hx6).set (by show w.heap.size ≤ w4.heap.size; omega) (.slice (some ⟨gS, 0, none⟩) n cs) : Ext w (w6.setCell ⟨w4.heap.size, 0, none⟩ (.slice (some ⟨gS, 0, none⟩) n cs))).set (by show w.heap.size ≤ w4.heap.size; omega) (.slice (some ⟨gT, 0, none⟩) n ct) : Ext w ((w6.setCell ⟨w4.heap.size, 0, none⟩ (.slice (some ⟨gS, 0, none⟩) n cs)).setCell ⟨w4.heap.size, 1, none⟩ (.slice (some ⟨gT, 0, none⟩) n ct))); have qb3 := b3; obtain ⟨⟨⟨i0, i1⟩, if_⟩, ⟨⟨j0, j1⟩, jf⟩, ⟨⟨k0, k1⟩, kf⟩, ne1, ne2⟩ := qb3; have RA6 := Lib.hid (((RA4.out.ext (Ext.alloc w4 (.cells #[.slice none 0 0, .slice none 0 0] 24))).ext hx6).setBox (k := w4.heap.size) (z0 := (.slice (some ⟨gS, 0, none⟩) n cs)) (z1 := (.slice (some ⟨gT, 0, none⟩) n ct)) HN.out.1 (by have := TA.out; omega)); have RB6 := Lib.hid (((RB4.out.ext (Ext.alloc w4 (.cells #[.slice none 0 0, .slice none 0 0] 24))).ext hx6).setBox (k := w4.heap.size) (z0 := (.slice (some ⟨gS, 0, none⟩) n cs)) (z1 := (.slice (some ⟨gT, 0, none⟩) n ct)) HN.out.1 (by have := TB.out; omega)); have RS6 := Lib.hid (rS.setBox (k := w4.heap.size) (z0 := (.slice (some ⟨gS, 0, none⟩) n cs)) (z1 := (.slice (some ⟨gT, 0, none⟩) n ct)) HN.out.1 (by simp at lS; omega)); have RT6 := Lib.hid (rT.setBox (k := w4.heap.size) (z0 := (.slice (some ⟨gS, 0, none⟩) n cs)) (z1 := (.slice (some ⟨gT, 0, none⟩) n ct)) HN.out.1 (by simp at lT; omega)); clear rS rT lS lT; clear d0 d1 df f0 f1 ff hx6)
    | (go_at_call 16; clear i0 i1 if_ j0 j1 jf k0 k1 kf; (with_reducible refine (num_nil _).mono ?_); rintro e1 w7 ⟨rfl, hx7⟩; have b5 := b4.ext hx7; have HE7 := Lib.hid (HE6.out.trans hx7); have qb5 := b5; obtain ⟨⟨⟨i0, i1⟩, if_⟩, ⟨⟨j0, j1⟩, jf⟩, ⟨⟨k0, k1⟩, kf⟩, _, _⟩ := qb5; have RA7 := Lib.hid (RA6.out.ext hx7); have RB7 := Lib.hid (RB6.out.ext hx7); have RS7 := Lib.hid (RS6.out.ext hx7); have RT7 := Lib.hid (RT6.out.ext hx7); clear hx7)
    | (go_at_call 29; (with_reducible refine (same_true HN.out.2 RA7.out RB7.out RS7.out RT7.out).mono ?_); rintro e1 w8 ⟨rfl, hx8⟩; have HE8 := Lib.hid (HE7.out.trans hx8); have b6 := b5.ext hx8; clear i0 i1 if_ j0 j1 jf k0 k1 kf; have RA8 := Lib.hid (RA7.out.ext hx8); have RB8 := Lib.hid (RB7.out.ext hx8); have qb6 := b6; obtain ⟨⟨⟨i0, i1⟩, if_⟩, ⟨⟨j0, j1⟩, jf⟩, ⟨⟨k0, k1⟩, kf⟩, _, _⟩ := qb6; clear hx8)
    | (go_at_call 29; (with_reducible refine (same_true HN.out.2 RA8.out (RB8.out.congr HYY.out) (HRA.out.ext HE8.out) (HRB.out.ext HE8.out)).mono ?_); rintro e1 w9 ⟨rfl, hx9⟩; have HE9 := Lib.hid (HE8.out.trans hx9); clear hx9))
    go_ret
    exact ⟨rfl, HE9.out⟩
  · have ha2 : (a != 65536) = true := by simpa using ha
    have ha3 : decide (a = 65536) = false := by simpa using ha
    go_enter Try.func13, Try.ntmps13
    go_wp2_with (first
    | (go_at_call 14; refine (awake_any _).mono ?_; rintro e w1 ⟨rfl, hb1⟩; (first | replace hb := Ext.trans hb hb1 | replace hb := Ext.trans (Ext.trans hb (Ext.drewN _ _)) hb1 | replace hb := Ext.trans (Ext.trans hb (Ext.alloc _ _)) hb1 | have hb := hb1); clear hb1; obtain ⟨hc1, hf1⟩ := hb.old)
    | (go_at_call 15; (with_reducible refine (HL.out _).mono ?_); rintro e1 w1 ⟨rfl, hb1⟩; replace hb := Ext.trans hb hb1; clear hb1; obtain ⟨hc1, hf1⟩ := hb.old)
    | (go_at_call 32; (with_reducible refine (HC.out _ ((Ext.alloc _ _).trans hb)).mono ?_); rintro e1 w3 ⟨gA, ca, gB, cb, rfl, ⟨lA, lB⟩, rA, rB, hx3⟩; have x2 := (B2.new w (.slice (some ⟨ba, oa, none⟩) n c) (.slice (some ⟨bb, ob, none⟩) n e) 24).ext (hb.trans hx3); have HE3 := Lib.hid (((Ext.alloc w _).trans hb).trans hx3); have qx2 := x2; obtain ⟨⟨c0, c1⟩, cf⟩ := qx2; have l3 := x2.lt; have RA3 := Lib.hid rA; have RB3 := Lib.hid rB; have TA := Lib.hid (rA.at_ HN.out.1).1; have TB := Lib.hid (rB.at_ HN.out.1).1; clear rA rB lA lB; clear hc1 hf1 hb hx3)
    | (go_at_call 18; (with_reducible refine (HR.out _ (HE3.out.trans (Ext.alloc _ _))).mono ?_); rintro e1 w4 ⟨rfl, hx4⟩; have x5 := (B2.new w3 (.slice (some ⟨gA, 0, none⟩) n ca) (.slice (some ⟨gB, 0, none⟩) n cb) 24).ext hx4; have y2 := (x2.ext (Ext.alloc _ _)).ext hx4; have HE4 := Lib.hid ((HE3.out.trans (Ext.alloc _ _)).trans hx4); have qx5 := x5; obtain ⟨⟨d0, d1⟩, df⟩ := qx5; have qy2 := y2; obtain ⟨⟨f0, f1⟩, ff⟩ := qy2; have l4 := x5.lt; have m4 := y2.lt; have RA4 := Lib.hid ((RA3.out.ext (Ext.alloc w3 _)).ext hx4); have RB4 := Lib.hid ((RB3.out.ext (Ext.alloc w3 _)).ext hx4); clear c0 c1 cf hx4)
    | (go_at_call 33; (with_reducible refine (HS.out _ (HE4.out.trans (Ext.alloc _ _))).mono ?_); rintro e1 w6 ⟨gS, cs, gT, ct, rfl, ⟨lS, lT⟩, rS, rT, hx6⟩; have b3 := (B23.mk ((y2.ext (Ext.alloc _ (.cells #[.slice none 0 0, .slice none 0 0] 24))).ext hx6) ((x5.ext (Ext.alloc _ _)).ext hx6) ((B2.new w4 (.slice none 0 0) (.slice none 0 0) 24).ext hx6) ⟨l3, l4⟩); have b4 := b3.set (.slice (some ⟨gS, 0, none⟩) n cs) (.slice (some ⟨gT, 0, none⟩) n ct); have HE6 := Lib.hid ((((HE4.out.trans (Ext.alloc _ _)).trans hx6).set (by show w.heap.size ≤ w4.heap.size; omega) (.slice (some ⟨gS, 0, none⟩) n cs) : Ext w (w6.setCell ⟨w4.heap.size, 0, none⟩ (.slice (some ⟨gS, 0, none⟩) n cs))).set (by show w.heap.size ≤ w4.heap.size; omega) (.slice (some ⟨gT, 0, none⟩) n ct) : Ext w ((w6.setCell ⟨w4.heap.size, 0, none⟩ (.slice (some ⟨gS, 0, none⟩) n cs)).setCell ⟨w4.heap.size, 1, none⟩ (.slice (some ⟨gT, 0, none⟩) n ct))); have qb3 := b3; obtain ⟨⟨⟨i0, i1⟩, if_⟩, ⟨⟨j0, j1⟩, jf⟩, ⟨⟨k0, k1⟩, kf⟩, ne1, ne2⟩ := qb3; have RA6 := Lib.hid (((RA4.out.ext (Ext.alloc w4 (.cells #[.slice none 0 0, .slice none 0 0] 24))).ext hx6).setBox (k := w4.heap.size) (z0 := (.slice (some ⟨gS, 0, none⟩) n cs)) (z1 := (.slice (some ⟨gT, 0, none⟩) n ct)) HN.out.1 (by have := TA.out; omega)); have RB6 := Lib.hid (((RB4.out.ext (Ext.alloc w4 (.cells #[.slice none 0 0, .slice none 0 0] 24))).ext hx6).setBox (k := w4.heap.size) (z0 := (.slice (some ⟨gS, 0, none⟩) n cs)) (z1 := (.slice (some ⟨gT, 0, none⟩) n ct)) HN.out.1 (by have := TB.out; omega)); have RS6 := Lib.hid (rS.setBox (k := w4.heap.size) (z0 := (.slice (some ⟨gS, 0, none⟩) n cs)) (z1 := (.slice (some ⟨gT, 0, none⟩) n ct)) HN.out.1 (by simp at lS; omega)); have RT6 := Lib.hid (rT.setBox (k := w4.heap.size) (z0 := (.slice (some ⟨gS, 0, none⟩) n cs)) (z1 := (.slice (some ⟨gT, 0, none⟩) n ct)) HN.out.1 (by simp at lT; omega)); clear rS rT lS lT; clear d0 d1 df f0 f1 ff hx6)
    | (go_at_call 16; clear i0 i1 if_ j0 j1 jf k0 k1 kf; (with_reducible refine (num_nil _).mono ?_); rintro e1 w7 ⟨rfl, hx7⟩; have b5 := b4.ext hx7; have HE7 := Lib.hid (HE6.out.trans hx7); have qb5 := b5; obtain ⟨⟨⟨i0, i1⟩, if_⟩, ⟨⟨j0, j1⟩, jf⟩, ⟨⟨k0, k1⟩, kf⟩, _, _⟩ := qb5; have RA7 := Lib.hid (RA6.out.ext hx7); have RB7 := Lib.hid (RB6.out.ext hx7); have RS7 := Lib.hid (RS6.out.ext hx7); have RT7 := Lib.hid (RT6.out.ext hx7); clear hx7)
    | (go_at_call 29; (with_reducible refine (same_true HN.out.2 RA7.out RB7.out RS7.out RT7.out).mono ?_); rintro e1 w8 ⟨rfl, hx8⟩; have HE8 := Lib.hid (HE7.out.trans hx8); have b6 := b5.ext hx8; clear i0 i1 if_ j0 j1 jf k0 k1 kf; have RA8 := Lib.hid (RA7.out.ext hx8); have RB8 := Lib.hid (RB7.out.ext hx8); have qb6 := b6; obtain ⟨⟨⟨i0, i1⟩, if_⟩, ⟨⟨j0, j1⟩, jf⟩, ⟨⟨k0, k1⟩, kf⟩, _, _⟩ := qb6; clear hx8))
    go_ret
    exact ⟨rfl, HE8.out⟩

theorem scales_top {w : World} {A B : Option Addr} {n c m e : Nat} {X Y : Nat → Int} {x : Int} (hn : n ≤ maxLen) (hm : m ≤ maxLen) (ra : Ri w A n X) (rb : Ri w B m Y) (_hx : -9223372036854775808 ≤ x ∧ x ≤ 9223372036854775807) :
    Calls Try.prog 13 #[cv A n c B m e, I x] w fun e' w' => e' = .returned (.bool true) ∧ Ext w w' := by
  by_cases h : 100 < n ∨ 100 < m
  · exact scales_long A B n c m e x h hn hm
  · by_cases hz : chk n m X Y = 0
    · obtain ⟨rfl, ba, oa, bb, ob, rfl, rfl, r⟩ := cur_of' hz ra rb
      by_cases h2 : x < 0 ∨ 131072 < x
      · exact scales_err hz r x (fun w' z => scale_out hz (r.ext z) x h2) (fun w' _ => rscale_out _ _ _ _ _ _ x h2)
      · have h3 : 0 ≤ x := by omega
        have h4 : x ≤ 131072 := by omega
        by_cases h5 : ∀ i, i < n → out30 (scv x (Y i)) = false
        · refine scales_ok hz r x (fun w' z => (scale_in hz (r.ext z) h3 h4).mono fun e' w'' p => ?_) (fun w' z => (rscale_in (crv_of hz).2 (r.ext z) h3 h4).mono fun e' w'' p => ?_)
          all_goals
            rcases p with p | ⟨⟨i, h6, h7⟩, _⟩
            · exact p.2
            · rw [h5 i h6] at h7; cases h7
        · refine scales_err hz r x (fun w' z => (scale_in hz (r.ext z) h3 h4).mono fun e' w'' p => ?_) (fun w' z => (rscale_in (crv_of hz).2 (r.ext z) h3 h4).mono fun e' w'' p => ?_)
          all_goals
            rcases p with p | p
            · exact absurd p.1 h5
            · exact p.2
    · exact scales_no rfl hz ra rb (by omega) (by omega) x
end Go.Proofs.Ytdcollchhcjaaaa
