/- The fixed-point machine: a run by the code: the data, the copy of the cells. -/
import Derived.Test.YtkocmdpfknoiaaaDoorKdb
import Derived.Maps.AppendAt
import Derived.Laws.AppendOwnNone
import Derived.Deep.RegionLaw
import Derived.Lib.SliceRun
namespace Go.Proofs.YtkocmdpfknoiaaaDoor
open Go Go.RowKit

theorem lt_no {a b : Int} (h : ¬ a < b) : decide (a < b) = false := by simpa using h
/-! ### a copy of a list -/
theorem appZ {ops : Array Oper} {rest : List Oper} {o : Oper} {a : Act} {w : World} {Q : Exit → Act → World → Prop} (hgd : o.guard = none) (s x : Operand) (ho : o.op = .call { callee := .builtin .append, args := #[s, x], argTypes := #[43, 43] })
    (base : Nat) (A : Option Addr) (c : Nat) (F : Nat → Int) (hs : a.eval s = .slice A 0 c) (hown : OwI w base A c F 0) (A' : Option Addr) (m c' : Nat) (hx : a.eval x = .slice A' m c') (r : Ri w A' m F) (h0 : A' = none → c' = 0)
    (hn : m ≤ 1099511627776) (hbase : base ≤ w.heap.size)
    (h : ∀ B e w', OwI w' base B e F m → w.grownBy w' (Value.slice A 0 c).ownBlock → wpList Tryd.prog ops Q rest (a.put o.dst (.slice B m e)) w') : wpList Tryd.prog ops Q (o :: rest) a w := by
  obtain ⟨i, hi, hz, h1, hb⟩ := info_parts infoI
  have form : ∀ (v' : Value) (w' : World), w'.ownsRow base 3 1 v' m (ivs F m) → ∃ B e, v' = .slice B m e := fun v' w' hv => by
    obtain ⟨_, ⟨rfl, e0⟩ | ⟨g, cap, cur, rfl, _⟩⟩ := hv
    · exact ⟨none, 0, by rw [e0]⟩
    · exact ⟨_, _, rfl⟩
  cases A' with
  | none =>
    have hm : m = 0 := by
      rcases Nat.eq_zero_or_pos m with h | h
      · exact h
      · obtain ⟨b, o, e, _⟩ := r h; cases e
    subst hm
    rw [h0 rfl] at hx
    refine wpList_append_own_none hgd s x _ ho base 3 i 1 Tryd.underlying43 hi _ 0 [] hs hown hx ?_
    exact h A c w hown ⟨rfl, rfl, rfl, Nat.le_refl _, fun _ _ _ => rfl⟩
  | some ad =>
    have hnews : ∀ j u, (ivs F m)[j]? = some u → w.cell? (ad.add j) = some u := fun j u hj => by
      have hjm : j < m := by
        rcases Nat.lt_or_ge j m with h | h
        · exact h
        · rw [List.getElem?_eq_none (by rw [ivs_len]; omega)] at hj; cases hj
      obtain ⟨b, o, e, hb, hc⟩ := r (by omega)
      obtain rfl := Option.some.inj e
      rw [ivs_get hjm] at hj
      obtain rfl := Option.some.inj hj
      have hadd : (⟨b, o, none⟩ : Addr).add j = ⟨b, o + j, none⟩ := by unfold Addr.add; split <;> simp_all
      rw [hadd, hc j hjm]
    have hone : ∀ u ∈ ivs F m, u.oneCell' = true := fun u hu => by
      obtain ⟨k, hk, rfl⟩ := List.mem_iff_getElem.1 hu
      have hk' : k < m := by rw [ivs_len] at hk; exact hk
      have := ivs_get (F := F) hk'
      rw [List.getElem?_eq_getElem hk] at this
      rw [Option.some.inj this]; rfl
    refine wpList_plain hgd fun _ hK => ?_
    obtain ⟨v', w', hr, h2, h3, _, h5⟩ := run_append_own_at (P := Tryd.prog) w base 43 o.type 3 i _ 1 8 Tryd.underlying43 hi hz h1 hb rfl (by omega) _ 0 [] hown ad m c' (ivs F m) (by rw [ivs_len, Nat.mul_one]) hnews
      hone (by unfold maxLen; omega) (by omega) hbase
    rw [Nat.zero_add, List.nil_append] at h2
    obtain ⟨B, e, rfl⟩ := form v' w' h2
    unfold Oper.wp execOp
    simp only [ho, resolve, invoke, builtin, Sem.run_bind, Sem.run_pure, Result.andThen_ok, List.map_toArray, List.map_cons, List.map_nil, hs, hx, hr]
    exact hK _ _ (h B e w' h2 h3)
/-- A copy of a list of ints: its own memory. -/
def ClR (F : Nat → Int) (n : Nat) (w : World) (e : Ending) (w' : World) : Prop := ∃ B k, e = .returned (.slice B n k) ∧ OwI w' w.heap.size B k F n ∧ Ext w w'
set_option maxRecDepth 100000 in
set_option maxHeartbeats 1000000 in
theorem cloneZ_any {w : World} {A : Option Addr} {n c : Nat} {F : Nat → Int} (r : Ri w A n F) (h0 : A = none → c = 0) (hn : n ≤ 1000) : Calls Tryd.prog 27 #[.slice A n c] w (ClR F n w) := by
  have hnil : ∀ (w : World) (a : Option Addr) (n c n' c' : Nat), (binOp .eql 43 (.slice a n c) (.slice none n' c')).run Tryd.prog w = .ok (.bool a.isNone) w := fun w a n c n' c' => Lib.run_eql_slice_nil w _ _ a n c n' c' Tryd.underlying43
  cases A with
  | none =>
    have hz : n = 0 := by
      rcases Nat.eq_zero_or_pos n with h | h
      · exact h
      · obtain ⟨b, o, e, _⟩ := r h; cases e
    subst hz
    clear r h0
    go_enter Tryd.func27, Tryd.ntmps27
    go_wp2_with fail
    go_ret
    exact ⟨none, 0, rfl, OwI.nil _ _ _, Ext.refl _⟩
  | some ad =>
    have R := Lib.hid (r.ext (Ext.alloc w (.cells #[] 3))); clear r
    have HO : Hid (OwI (w.alloc (.cells #[] 3)) w.heap.size (some ⟨w.heap.size, 0, none⟩) 0 F 0) := World.ownsRow_made w #[] 0 (Nat.le_refl _) (Nat.zero_le _) rfl
    have H0 := Lib.hid h0
    clear h0
    go_enter Tryd.func27, Tryd.ntmps27
    go_wp2_with (at_builtin; refine appZ rfl _ _ rfl w.heap.size (some ⟨w.heap.size, 0, none⟩) 0 F rfl HO.out _ n c rfl R.out H0.out (by omega) (by simp) ?_; intro B e w1 hown hgrow; have O1 := Lib.hid hown; have G1 := Lib.hid hgrow; clear hown hgrow)
    go_ret
    exact ⟨B, e, rfl, O1.out, Below.grown (Ext.alloc w _) G1.out (by simp) (fun k hk => by simp [Value.ownBlock] at hk; omega)⟩
end Go.Proofs.YtkocmdpfknoiaaaDoor
