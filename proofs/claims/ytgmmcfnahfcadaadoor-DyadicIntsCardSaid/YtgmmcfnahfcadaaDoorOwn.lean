/- Slices of the call's own, nil let in; append of one word. -/
import Derived.Test.YtgmmcfnahfcadaaDoorNatc
namespace Go.Proofs.YtgmmcfnahfcadaaDoor
open Go.RowKit

def SlOk (A : Option Addr) (n c : Nat) : Prop := n ≤ c ∧ c ≤ maxLen ∧ (A = none → n = 0 ∧ c = 0)
def On (w : World) (base : Nat) (A : Option Addr) (n c : Nat) (f : Nat → Nat) : Prop := w.ownsRow base 74 1 (.slice A n c) n (wl f n)
section
variable {w w' : World} {base n c : Nat} {A : Option Addr} {f : Nat → Nat}
theorem On.cases (h : On w base A n c f) : (A = none ∧ n = 0 ∧ c = 0) ∨ ∃ g, A = some ⟨g, 0, none⟩ ∧ Row w base g n c f := by
  have h' := h
  obtain ⟨_, ⟨e, hn⟩ | ⟨g, cap, cur, e, _⟩⟩ := h
  · injection e with e1 e2 e3; exact .inl ⟨e1, hn, e3⟩
  · injection e with e1 e2 e3; subst e1; exact .inr ⟨g, rfl, h'⟩
theorem On.ok (h : On w base A n c f) : SlOk A n c := by
  rcases h.cases with ⟨rfl, rfl, rfl⟩ | ⟨g, rfl, hr⟩
  · exact ⟨Nat.le_refl _, Nat.zero_le _, fun _ => ⟨rfl, rfl⟩⟩
  · exact ⟨hr.cap.1, hr.cap.2, fun e => by cases e⟩
theorem On.rd (h : On w base A n c f) : Rd w A n f := by
  rcases h.cases with ⟨rfl, rfl, rfl⟩ | ⟨g, rfl, hr⟩
  · exact Rd.none_
  · exact hr.rd
theorem On.ext (h : On w base A n c f) (e : Ext w w') : On w' base A n c f :=
  World.ownsRow.kept h (fr_of_ext e) (by cases (Value.slice A n c).ownBlock <;> simp)
theorem On.congr {f' : Nat → Nat} (h : On w base A n c f) (e : ∀ i, i < n → f i = f' i) : On w base A n c f' := by
  unfold On at *; rw [← wl_congr e]; exact h
theorem On.mono {base' : Nat} (h : On w base A n c f) (hb : base' ≤ base) : On w base' A n c f := by
  obtain ⟨hl, h⟩ := h
  refine ⟨hl, ?_⟩
  rcases h with h | ⟨g, cap, cur, h1, h2, h3⟩
  · exact .inl h
  · exact .inr ⟨g, cap, cur, h1, by omega, h3⟩
theorem On.nil (w : World) (base : Nat) (f : Nat → Nat) : On w base none 0 0 f := World.ownsRow_nil _ _ _ _
end
theorem Row.on {w : World} {base g n c : Nat} {f : Nat → Nat} (h : Row w base g n c f) : On w base (some ⟨g, 0, none⟩) n c f := h
theorem Row.le {w : World} {base g n n' c : Nat} {f : Nat → Nat} (h : Row w base g n c f) (hn : n' ≤ n) : Row w base g n' c f := by
  obtain ⟨hl, ⟨h', _⟩ | ⟨g', cap', cur, h', a, b, c1, d, e, ht⟩⟩ := h
  · simp at h'
  · refine ⟨by rw [wl_len]; simp, .inr ⟨g', cap', cur, ?_, a, b, by omega, d, e, ?_⟩⟩
    · injection h' with h1 h2 h3; rw [h1, h3]
    · have : cur.toList.take (n' * 1) = (cur.toList.take (n * 1)).take (n' * 1) := by rw [List.take_take]; congr 1; omega
      rw [this, ht]
      apply List.ext_getElem?
      intro i
      rw [List.getElem?_take]
      by_cases hi : i < n'
      · rw [if_pos (by omega), wl_get _ (by omega), wl_get _ hi]
      · rw [if_neg (by omega), List.getElem?_eq_none (by rw [wl_len]; omega)]

/-- What a function on natural numbers returns: new memory that reads as x. -/
def NatRes (x : Nat) (w : World) (e : Ending) (w' : World) : Prop := ∃ A c, e = .returned (.slice A (len x) c) ∧ On w' w.heap.size A (len x) c (dg x) ∧ Ext w w'
/-- Of a row that has been cut to its length. -/
theorem natRes_of {w w' : World} {x g n c : Nat} {f : Nat → Nat} {e : Ending} (hr : Row w' w.heap.size g n c f) (hb : ∀ i, i < n → f i < 4294967296) (hv : valN f n = x) (he : e = .returned (.slice (some ⟨g, 0, none⟩) (len (valN f n)) c)) (hx : Ext w w') : NatRes x w e w' := by
  subst hv
  refine ⟨_, c, he, ((hr.le ?_).congr fun i hi => (dg_valN hb ?_).symm).on, hx⟩
  · exact len_le (valN_lt hb)
  · have := len_le (valN_lt (f := f) hb); omega

theorem news1 {w : World} {ad : Addr} {v : Value} (h : w.cell? ad = some v) : ∀ j u, [v][j]? = some u → w.cell? (ad.add j) = some u := by
  intro j u hj
  cases j with
  | zero => simp at hj; subst hj; exact h
  | succ j => simp at hj
section
variable {ops : Array Oper} {rest : List Oper} {o : Oper} {a : Act} {w : World}
theorem app1 {Q : Exit → Act → World → Prop} (hgd : o.guard = none) (s x : Operand) (ho : o.op = .call { callee := .builtin .append, args := #[s, x], argTypes := #[22, 22] })
    (base : Nat) (A : Option Addr) (n c : Nat) (f : Nat → Nat) (hs : a.eval s = .slice A n c) (hown : On w base A n c f) (ad : Addr) (cx v : Nat) (hx : a.eval x = .slice (some ad) 1 cx) (hv : w.cell? ad = some (U4 v))
    (hn : n ≤ 1099511627776) (hbase : base ≤ w.heap.size)
    (h : ∀ g cap w', Row w' base g (n + 1) cap (upd f n v) → w.grownBy w' (Value.slice A n c).ownBlock → ((Value.slice A n c).ownBlock = some g ∨ g = w.heap.size) → g < w'.heap.size →
      wpList Tryd.prog ops Q rest (a.put o.dst (.slice (some ⟨g, 0, none⟩) (n + 1) cap)) w') : wpList Tryd.prog ops Q (o :: rest) a w := by
  obtain ⟨i, hi, hz, h1, hb⟩ := info_parts infoU
  refine wpList_append_lies w hgd s x _ ho base 74 i _ 1 4 Tryd.underlying22 hi hz h1 hb rfl (by omega) _ n _ hs hown ad 1 cx [U4 v] hx rfl (news1 hv) (by simp [Value.oneCell']) (by omega) (by unfold maxLen; omega) (by omega) hbase w.heap.size rfl ?_
  intro g cap w' h1 h2 h3 h4
  refine h g cap w' ?_ h2 h3 h4
  rw [wl_snoc] at h1; exact h1
theorem app1_step {K : Act → World → Prop} {Q : Exit → Act → World → Prop} {E : Prop} (hgd : o.guard = none) (s x : Operand) (ho : o.op = .call { callee := .builtin .append, args := #[s, x], argTypes := #[22, 22] })
    (base : Nat) (A : Option Addr) (n c : Nat) (f : Nat → Nat) (hs : a.eval s = .slice A n c) (hown : On w base A n c f) (ad : Addr) (cx v : Nat) (hx : a.eval x = .slice (some ad) 1 cx) (hv : w.cell? ad = some (U4 v))
    (hn : n ≤ 1099511627776) (hbase : base ≤ w.heap.size)
    (h : ∀ g cap w', Row w' base g (n + 1) cap (upd f n v) → w.grownBy w' (Value.slice A n c).ownBlock → ((Value.slice A n c).ownBlock = some g ∨ g = w.heap.size) → g < w'.heap.size →
      K (a.put o.dst (.slice (some ⟨g, 0, none⟩) (n + 1) cap)) w') : if Region.wanted o (yielded ops a.tmps) = true then Oper.wp Tryd.prog o a w K Q else E := by
  obtain ⟨i, hi, hz, h1, hb⟩ := info_parts infoU
  refine step_append_lies w hgd s x _ ho base 74 i _ 1 4 Tryd.underlying22 hi hz h1 hb rfl (by omega) _ n _ hs hown ad 1 cx [U4 v] hx rfl (news1 hv) (by simp [Value.oneCell']) (by omega) (by unfold maxLen; omega) (by omega) hbase w.heap.size rfl ?_
  intro g cap w' h1 h2 h3 h4
  refine h g cap w' ?_ h2 h3 h4
  rw [wl_snoc] at h1; exact h1
end
/-- Behind an append to a row of one's own. -/
theorem ext_app {w0 w w' : World} {A : Option Addr} {n c : Nat} {f : Nat → Nat} (h : Ext w0 w) (hown : On w w0.heap.size A n c f) (hg : w.grownBy w' (Value.slice A n c).ownBlock) : Ext w0 w' :=
  Below.grown h hg h.size (fun k hk => (World.ownsRow.lt hown k hk).1)

end Go.Proofs.YtgmmcfnahfcadaaDoor
