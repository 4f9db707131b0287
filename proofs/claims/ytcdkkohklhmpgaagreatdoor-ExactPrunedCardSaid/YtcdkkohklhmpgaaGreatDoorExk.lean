/- The laws over exact: inputs that are moved into the ranges of their ports. -/
import Derived.Test.YtcdkkohklhmpgaaGreatDoorLix
namespace Go.Proofs.YtcdkkohklhmpgaaGreatDoor
open Go Go.RowKit

/-- n, moved into its limits. -/
def clp (n lo hi : Int) : Int := if n < lo then lo else if hi < n then hi else n
theorem clp_bd (n lo hi : Int) (h : lo ≤ hi) : lo ≤ clp n lo hi ∧ clp n lo hi ≤ hi := by unfold clp; split <;> (try split) <;> omega
set_option maxHeartbeats 400000 in
theorem clip_any (n lo hi : Int) (w : World) (hl : lo ≤ hi) : Calls Tryz.prog 101 #[I n, I lo, I hi] w fun e w' => e = .returned (I (clp n lo hi)) ∧ Ext w w' := by
  have H : Hid (max lo (min n hi) = clp n lo hi) := by
    show _ = _; unfold clp
    by_cases h : n < lo
    · rw [if_pos h]; omega
    · rw [if_neg h]
      by_cases h2 : hi < n
      · rw [if_pos h2]; omega
      · rw [if_neg h2]; omega
  clear hl
  go_enter Tryz.func101, Tryz.ntmps101
  go_wp2
  go_ret
  exact ⟨by rw [← H.out]; rfl, Ext.refl _⟩
/-! ### Lists of ints that are appended to -/
def ivs (F : Nat → Int) : Nat → List Value
  | 0 => []
  | n + 1 => ivs F n ++ [I (F n)]
theorem ivs_len (F : Nat → Int) (n : Nat) : (ivs F n).length = n := by
  induction n with
  | zero => rfl
  | succ n ih => show (ivs F n ++ [_]).length = _; rw [List.length_append, ih]; rfl
theorem ivs_get {F : Nat → Int} {n k : Nat} (hk : k < n) : (ivs F n)[k]? = some (I (F k)) := by
  induction n with
  | zero => omega
  | succ n ih =>
    show (ivs F n ++ [_])[k]? = _
    by_cases e : k = n
    · subst e; rw [List.getElem?_append_right (by rw [ivs_len]; exact Nat.le_refl _), ivs_len]; simp
    · rw [List.getElem?_append_left (by rw [ivs_len]; omega)]; exact ih (by omega)
def OwI (w : World) (base : Nat) (A : Option Addr) (c : Nat) (F : Nat → Int) (n : Nat) : Prop := w.ownsRow base 3 1 (.slice A n c) n (ivs F n)
theorem OwI.nil (w : World) (base : Nat) (F : Nat → Int) : OwI w base none 0 F 0 := World.ownsRow_nil _ _ _ _
theorem OwI.lt {w : World} {base c n : Nat} {A : Option Addr} {F : Nat → Int} (h : OwI w base A c F n) : ∀ k, (Value.slice A n c).ownBlock = some k → base ≤ k ∧ k < w.heap.size := World.ownsRow.lt h
theorem OwI.ext {w w' : World} {base c n : Nat} {A : Option Addr} {F : Nat → Int} (h : OwI w base A c F n) (e : Ext w w') : OwI w' base A c F n :=
  World.ownsRow.kept h (ext_gr e) (by cases (Value.slice A n c).ownBlock <;> simp)
theorem OwI.ri {w : World} {base c n : Nat} {A : Option Addr} {F : Nat → Int} (h : OwI w base A c F n) : Ri w A n F := fun h0 => by
  have h' := h
  obtain ⟨_, ⟨e, hz⟩ | ⟨g, cap, cur, e, _⟩⟩ := h'
  · omega
  · injection e with e1 e2 e3
    subst e1
    refine ⟨g, 0, rfl, (h.lt g rfl).2, fun k hk => ?_⟩
    rw [Nat.zero_add, World.ownsRow.cellAt h k (by omega)]; exact ivs_get hk
theorem OwI.blk {w : World} {base c n : Nat} {A : Option Addr} {F : Nat → Int} (h : OwI w base A c F n) : ∀ b o, A = some ⟨b, o, none⟩ → base ≤ b ∧ b < w.heap.size := fun b o hA => by
  have h' := h
  obtain ⟨_, ⟨e, _⟩ | ⟨g, cap, cur, e, _⟩⟩ := h'
  · injection e with e1; rw [hA] at e1; cases e1
  · injection e with e1 e2 e3
    rw [hA] at e1
    injection e1 with e1
    injection e1 with e1 e4
    subst e1; subst e4; subst hA
    exact h.lt b rfl
theorem growI_ext {W w w' : World} {base c n : Nat} {A : Option Addr} {F : Nat → Int} (e : Ext W w) (h : OwI w base A c F n) (hb : W.heap.size ≤ base) (hg : w.grownBy w' (Value.slice A n c).ownBlock) : Ext W w' :=
  Below.grown e hg e.size (fun k hk => Nat.le_trans hb (h.lt k hk).1)
theorem appI {ops : Array Oper} {rest : List Oper} {o : Oper} {a : Act} {w : World} {Q : Exit → Act → World → Prop} (hgd : o.guard = none) (s x : Operand) (ho : o.op = .call { callee := .builtin .append, args := #[s, x], argTypes := #[46, 46] })
    (base : Nat) (A : Option Addr) (c : Nat) (F : Nat → Int) (n : Nat) (hs : a.eval s = .slice A n c) (hown : OwI w base A c F n) (ad : Addr) (cx : Nat) (hx : a.eval x = .slice (some ad) 1 cx) (hv : w.cell? ad = some (I (F n)))
    (hn : n ≤ 1099511627) (hbase : base ≤ w.heap.size)
    (h : ∀ g cap w', OwI w' base (some ⟨g, 0, none⟩) cap F (n + 1) → w.grownBy w' (Value.slice A n c).ownBlock → ((Value.slice A n c).ownBlock = some g ∨ g = w.heap.size) → g < w'.heap.size →
      wpList Tryz.prog ops Q rest (a.put o.dst (.slice (some ⟨g, 0, none⟩) (n + 1) cap)) w') : wpList Tryz.prog ops Q (o :: rest) a w := by
  obtain ⟨i, hi, hz, h1, hb⟩ := info_parts infoI
  exact wpList_append_lies w hgd s x _ ho base 3 i _ 1 8 Tryz.underlying46 hi hz h1 hb rfl (by omega) _ n _ hs hown ad 1 cx [I (F n)] hx rfl (news1' hv) (by simp [Value.oneCell']) (by omega) (by unfold maxLen; omega) (by omega) hbase w.heap.size rfl h
/-! ### fit -/
def fitV (D : Dia) (m : Nat) (IN : Nat → Int) : Nat → Int := fun i => clp (if i < m then IN i else 0) (D.P i).lo (D.P i).hi
def FiR (D : Dia) (m : Nat) (IN : Nat → Int) (w : World) (e : Ending) (w' : World) : Prop := ∃ A c, e = .returned (.slice A D.ni c) ∧ OwI w' w.heap.size A c (fitV D m IN) D.ni ∧ Ext w w'
theorem fit_rng {D : Dia} (ok : OkD D) (m : Nat) (IN : Nat → Int) : ∀ j, j < D.ni → (D.P j).lo ≤ fitV D m IN j ∧ fitV D m IN j ≤ (D.P j).hi := fun j hj => clp_bd _ _ _ (by have := ok.port hj; omega)
set_option maxRecDepth 100000 in
set_option maxHeartbeats 1000000 in
theorem fit_any {w : World} {D : Dia} {p : Pl} {Ai : Option Addr} {m ci : Nat} {IN : Nat → Int} (d : Dm w D p) (hni : D.ni ≤ 1000) (hP : ∀ j, j < D.ni → (D.P j).lo ≤ (D.P j).hi) (r : Ri w Ai m IN) (hm : m ≤ maxLen) :
    Calls Tryz.prog 28 #[dgv D p, .slice Ai m ci] w (FiR D m IN w) := by
  unfold maxLen at hm
  obtain ⟨W1, hW1⟩ : ∃ W1, W1 = w.alloc (.cells #[.slice p.AI D.ni p.cI, .slice p.AB D.nb p.cB, .slice p.AO D.no p.cO] 48) := ⟨_, rfl⟩
  have hE : Ext w W1 := by rw [hW1]; exact Ext.alloc _ _
  have hbd : Bd W1 w.heap.size D p := by rw [hW1]; exact Bd.new _ _ _ _
  have HD := Lib.hid (d.ext hE); have HE := Lib.hid hE; have HI := Lib.hid (r.ext hE); have HP := Lib.hid hP
  have hz1 : W1.heap.size = w.heap.size + 1 := by rw [hW1]; simp
  obtain ⟨c0, c1, c2⟩ := hbd
  clear d hE r hP
  go_enter Tryz.func28, Tryz.ntmps28
  go_upto_region 1 with fail
  rw [← hW1]; clear hW1
  go_wp2_with fail
  clear c0 c1 c2
  go_loopw [5, 12] (fun s5 s wr => ∃ (j : Nat) (A : Option Addr) (c : Nat), j ≤ D.ni ∧ s = I j ∧ s5 = .slice A j c ∧ Hid (OwI wr w.heap.size A c (fitV D m IN) j ∧ Ext W1 wr ∧ ∀ k, (Value.slice A j c).ownBlock = some k → W1.heap.size ≤ k)) (fun _ s _ => D.ni - (intOf s).toNat)
  case atStart => exact ⟨0, none, 0, Nat.zero_le _, rfl, rfl, OwI.nil _ _ _, Ext.refl _, fun k hk => by cases hk⟩
  case round =>
    obtain ⟨j, A, c, hj, rfl, rfl, H⟩ := hrel
    by_cases hlt : j < D.ni
    · obtain ⟨bp, op, hp, hbp, hcp⟩ := (HD.out.ext H.out.2.1).ports (by omega)
      obtain ⟨y0, y1, y2⟩ := hcp j hlt
      have hlt' : (j : Int) < (D.ni : Int) := by omega
      have hle := HP.out j hlt
      have hsz := H.out.2.1.size
      obtain ⟨v, hv⟩ : ∃ v, fitV D m IN j = v := ⟨_, rfl⟩
      have HV := Lib.hid hv
      by_cases hjm : j < m
      · obtain ⟨bi, oi, rfl, hbi, hci⟩ := HI.out.ext H.out.2.1 (by omega)
        have xi := hci j hjm
        have hjm' : (j : Int) < (m : Int) := by omega
        have HCL : Hid (∀ w', Calls Tryz.prog 101 #[I (IN j), I (D.P j).lo, I (D.P j).hi] w' fun e w'' => e = .returned (I v) ∧ Ext w' w'') := fun w' => by
          have := clip_any (IN j) (D.P j).lo (D.P j).hi w' hle
          rw [← hv]; unfold fitV; rw [if_pos hjm]; exact this
        clear hcp hci hv hle
        generalize (D.P j).lo = plo at *
        generalize (D.P j).hi = phi at *
        generalize (D.P j).fr = pfr at *
        generalize IN j = iy at *
        go_wp2_with (first
          | (go_at_call 101; (with_reducible refine (HCL.out _).mono ?_); rintro e1 w2 ⟨rfl, h2⟩; have HX2 := Lib.hid (show Ext wr w2 from (by (with_reducible (repeat (first | exact Ext.refl _ | assumption | (refine Ext.toSet ?_ (by omega)) | refine Ext.toAlloc ?_ | refine Ext.toDrew ?_ | refine Ext.toDrewN ?_ | refine Ext.trans ?_ (by assumption)))); (first | done | fail "no"))); have hs2 := HX2.out.size)
          | (at_builtin; refine appI rfl _ _ rfl w.heap.size A c (fitV D m IN) j rfl (H.out.1.ext (HX2.out.trans (Ext.alloc _ _))) _ _ rfl (by rw [HV.out]; go_simp) (by omega) (by simp; omega) ?_; intro g cap w3 hown hgrow hat hltg; have HN := Lib.hid hown; have HG := Lib.hid (Below.grown (H.out.2.1.trans (HX2.out.trans (Ext.alloc _ _))) hgrow (H.out.2.1.trans (HX2.out.trans (Ext.alloc _ _))).size H.out.2.2); have HQ : Hid (W1.heap.size ≤ g) := (by rcases hat with h | h; exact H.out.2.2 g h; (rw [h]; exact (H.out.2.1.trans (HX2.out.trans (Ext.alloc _ _))).size)); clear hown hgrow hat hltg))
        (try rw [← hp])
        go_roundw
        case rel => exact ⟨j + 1, _, _, by omega, by go_num, rfl, HN.out, HG.out, fun k hk => by injection hk with hk; subst hk; exact HQ.out⟩
        case measure => simp [intOf]; omega
      · have hjm' : ¬ (j : Int) < (m : Int) := by omega
        have HCL : Hid (∀ w', Calls Tryz.prog 101 #[I 0, I (D.P j).lo, I (D.P j).hi] w' fun e w'' => e = .returned (I v) ∧ Ext w' w'') := fun w' => by
          have := clip_any 0 (D.P j).lo (D.P j).hi w' hle
          rw [← hv]; unfold fitV; rw [if_neg hjm]; exact this
        clear hcp hv hle
        generalize (D.P j).lo = plo at *
        generalize (D.P j).hi = phi at *
        generalize (D.P j).fr = pfr at *
        go_wp2_with (first
          | (go_at_call 101; (with_reducible refine (HCL.out _).mono ?_); rintro e1 w2 ⟨rfl, h2⟩; have HX2 := Lib.hid (show Ext wr w2 from (by (with_reducible (repeat (first | exact Ext.refl _ | assumption | (refine Ext.toSet ?_ (by omega)) | refine Ext.toAlloc ?_ | refine Ext.toDrew ?_ | refine Ext.toDrewN ?_ | refine Ext.trans ?_ (by assumption)))); (first | done | fail "no"))); have hs2 := HX2.out.size)
          | (at_builtin; refine appI rfl _ _ rfl w.heap.size A c (fitV D m IN) j rfl (H.out.1.ext (HX2.out.trans (Ext.alloc _ _))) _ _ rfl (by rw [HV.out]; go_simp) (by omega) (by simp; omega) ?_; intro g cap w3 hown hgrow hat hltg; have HN := Lib.hid hown; have HG := Lib.hid (Below.grown (H.out.2.1.trans (HX2.out.trans (Ext.alloc _ _))) hgrow (H.out.2.1.trans (HX2.out.trans (Ext.alloc _ _))).size H.out.2.2); have HQ : Hid (W1.heap.size ≤ g) := (by rcases hat with h | h; exact H.out.2.2 g h; (rw [h]; exact (H.out.2.1.trans (HX2.out.trans (Ext.alloc _ _))).size)); clear hown hgrow hat hltg))
        (try rw [← hp])
        go_roundw
        case rel => exact ⟨j + 1, _, _, by omega, by go_num, rfl, HN.out, HG.out, fun k hk => by injection hk with hk; subst hk; exact HQ.out⟩
        case measure => simp [intOf]; omega
    · obtain rfl : j = D.ni := by omega
      go_wp2_with fail
      go_ret
      exact ⟨A, c, rfl, H.out.1, HE.out.trans H.out.2.1⟩
end Go.Proofs.YtcdkkohklhmpgaaGreatDoor
