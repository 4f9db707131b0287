/- Diagrams: append of lists, Clone, the search that the code makes (reached). -/
import Derived.Test.YtgajibdmihdkcaaDoorDgi
import Derived.Maps.AppendAt
import Derived.Laws.AppendOwnNone
namespace Go.Proofs.YtgajibdmihdkcaaDoor
open Go Go.RowKit

theorem appM {ops : Array Oper} {rest : List Oper} {o : Oper} {a : Act} {w : World} {Q : Exit → Act → World → Prop} (hgd : o.guard = none) (s x : Operand) (ho : o.op = .call { callee := .builtin .append, args := #[s, x], argTypes := #[24, 24] })
    (base : Nat) (A : Option Addr) (c : Nat) (L : List Nat) (hs : a.eval s = .slice A L.length c) (hown : OwL w base A c L) (A' : Option Addr) (m c' : Nat) (f : Nat → Int) (hx : a.eval x = .slice A' m c') (r : Ri w A' m f) (h0 : A' = none → c' = 0)
    (V : List Nat) (hV : V.length = m) (hf : ∀ j, j < m → f j = ((V.getD j 0 : Nat) : Int)) (hn : L.length + m ≤ 1099511627776) (hbase : base ≤ w.heap.size)
    (h : ∀ B e w', OwL w' base B e (L ++ V) → w.grownBy w' (Value.slice A L.length c).ownBlock → ((Value.slice B (L ++ V).length e).ownBlock = (Value.slice A L.length c).ownBlock ∨ (Value.slice B (L ++ V).length e).ownBlock = some w.heap.size) →
      wpList Tryd.prog ops Q rest (a.put o.dst (.slice B (L ++ V).length e)) w') : wpList Tryd.prog ops Q (o :: rest) a w := by
  obtain ⟨i, hi, hz, h1, hb⟩ := info_parts infoI
  have form : ∀ (v' : Value) (w' : World), w'.ownsRow base 3 1 v' (L ++ V).length (nI (L ++ V)) → ∃ B e, v' = .slice B (L ++ V).length e := fun v' w' hv => by
    obtain ⟨_, ⟨rfl, e0⟩ | ⟨g, cap, cur, rfl, _⟩⟩ := hv
    · exact ⟨none, 0, by rw [e0]⟩
    · exact ⟨_, _, rfl⟩
  cases A' with
  | none =>
    have hm : m = 0 := by
      rcases Nat.eq_zero_or_pos m with h | h
      · exact h
      · obtain ⟨b, o, e, _⟩ := r h; cases e
    subst hm
    have hV' : V = [] := List.eq_nil_of_length_eq_zero hV
    subst hV'
    rw [h0 rfl] at hx
    refine wpList_append_own_none hgd s x _ ho base 3 i 1 Tryd.underlying24 hi _ L.length (nI L) hs hown hx ?_
    have := h A c w (by rw [List.append_nil]; exact hown) ⟨rfl, rfl, rfl, Nat.le_refl _, fun _ _ _ => rfl⟩ (.inl (by rw [List.append_nil]))
    rw [List.append_nil] at this
    exact this
  | some ad =>
    have hnews : ∀ j u, (nI V)[j]? = some u → w.cell? (ad.add j) = some u := fun j u hj => by
      have hjm : j < m := by
        rcases Nat.lt_or_ge j m with h | h
        · exact h
        · rw [List.getElem?_eq_none (by simp [nI]; omega)] at hj; cases hj
      obtain ⟨b, o, e, hb, hc⟩ := r (by omega)
      obtain rfl := Option.some.inj e
      have hjV : j < V.length := by omega
      have : u = I (V.getD j 0 : Nat) := by
        simp [nI, List.getElem?_eq_getElem hjV] at hj
        rw [← hj]; simp [List.getD, List.getElem?_eq_getElem hjV]
      have hadd : (⟨b, o, none⟩ : Addr).add j = ⟨b, o + j, none⟩ := by unfold Addr.add; split <;> simp_all
      rw [hadd, hc j hjm, this, hf j hjm]
    refine wpList_plain hgd fun _ hK => ?_
    obtain ⟨v', w', hr, h2, h3, _, h5⟩ := run_append_own_at (P := Tryd.prog) w base 24 o.type 3 i _ 1 8 Tryd.underlying24 hi hz h1 hb rfl (by omega) _ L.length _ hown ad m c' (nI V) (by simp [nI, hV]) hnews
      (by intro u hu; simp [nI] at hu; obtain ⟨_, _, rfl⟩ := hu; rfl) (by unfold maxLen; omega) (by omega) hbase
    have e1 : L.length + m = (L ++ V).length := by simp [hV]
    rw [e1, show nI L ++ nI V = nI (L ++ V) by simp [nI]] at h2
    obtain ⟨B, e, rfl⟩ := form v' w' h2
    unfold Oper.wp execOp
    simp only [ho, resolve, invoke, builtin, Sem.run_bind, Sem.run_pure, Result.andThen_ok, List.map_toArray, List.map_cons, List.map_nil, hs, hx, hr]
    exact hK _ _ (h B e w' h2 h3 h5)

/-- A list that is read: its places. -/
def Rl (w : World) (A : Option Addr) (c : Nat) (L : List Nat) : Prop := Ri w A L.length (fun i => ((L.getD i 0 : Nat) : Int)) ∧ (A = none → c = 0)
theorem Rl.ext {w w' : World} {A : Option Addr} {c : Nat} {L : List Nat} (h : Rl w A c L) (e : Ext w w') : Rl w' A c L := ⟨h.1.ext e, h.2⟩
theorem OwL.rl {w : World} {base c : Nat} {A : Option Addr} {L : List Nat} (h : OwL w base A c L) : Rl w A c L := ⟨h.ri, fun hA => by
  obtain ⟨_, ⟨e, h0⟩ | ⟨g, cap, cur, e, _⟩⟩ := h
  · injection e
  · subst hA; injection e with e1; cases e1⟩

set_option maxRecDepth 100000 in
set_option maxHeartbeats 1000000 in
theorem cloneL_any {w : World} {A : Option Addr} {c : Nat} {L : List Nat} (r : Rl w A c L) (hn : L.length ≤ 1000) :
    Calls Tryd.prog 46 #[.slice A L.length c] w (LsR L w) := by
  have hnil : ∀ (w : World) (a : Option Addr) (n c n' c' : Nat), (binOp .eql 24 (.slice a n c) (.slice none n' c')).run Tryd.prog w = .ok (.bool a.isNone) w := fun w a n c n' c' => Lib.run_eql_slice_nil w _ _ a n c n' c' Tryd.underlying24
  cases A with
  | none =>
    have h0 : L = [] := by
      rcases Nat.eq_zero_or_pos L.length with h | h
      · exact List.eq_nil_of_length_eq_zero h
      · obtain ⟨b, o, e, _⟩ := r.1 h; cases e
    subst h0
    have R := Lib.hid r; clear r
    go_enter Tryd.func46, Tryd.ntmps46
    go_wp2_with fail
    go_ret
    exact ⟨none, 0, rfl, OwL.nil _ _, Ext.refl _⟩
  | some ad =>
    have R := Lib.hid (r.ext (Ext.alloc w (.cells #[] 3))); clear r
    have HO : Hid (OwL (w.alloc (.cells #[] 3)) w.heap.size (some ⟨w.heap.size, 0, none⟩) 0 []) := World.ownsRow_made w #[] 0 (Nat.le_refl _) (Nat.zero_le _) rfl
    go_enter Tryd.func46, Tryd.ntmps46
    go_wp2_with (at_builtin; refine appM rfl _ _ rfl w.heap.size (some ⟨w.heap.size, 0, none⟩) 0 [] rfl HO.out _ L.length c _ rfl R.out.1 R.out.2 L rfl (fun _ _ => rfl) (by simp; omega) (by simp) ?_; intro B e w1 hown hgrow hat; have O1 := Lib.hid hown; have G1 := Lib.hid hgrow; clear hown hgrow hat)
    go_ret
    exact ⟨B, e, rfl, O1.out, Below.grown (Ext.alloc w _) G1.out (by simp) (fun k hk => by simp [Value.ownBlock] at hk; omega)⟩
end Go.Proofs.YtgajibdmihdkcaaDoor
