/- Lists of lists of ints that are appended to. -/
import Derived.Test.YtcdkkohklhmpgaaGreatDoorExk
namespace Go.Proofs.YtcdkkohklhmpgaaGreatDoor
open Go Go.RowKit

def rwi (G : Nat → Option Addr) (cc : Nat → Nat) (no : Nat) : Nat → List Value
  | 0 => []
  | t + 1 => rwi G cc no t ++ [.slice (G t) no (cc t)]
theorem rwi_len (G : Nat → Option Addr) (cc : Nat → Nat) (no t : Nat) : (rwi G cc no t).length = t := by
  induction t with
  | zero => rfl
  | succ t ih => show (rwi G cc no t ++ [_]).length = _; rw [List.length_append, ih]; rfl
theorem rwi_get {G : Nat → Option Addr} {cc : Nat → Nat} {no t k : Nat} (hk : k < t) : (rwi G cc no t)[k]? = some (.slice (G k) no (cc k)) := by
  induction t with
  | zero => omega
  | succ t ih =>
    show (rwi G cc no t ++ [_])[k]? = _
    by_cases e : k = t
    · subst e; rw [List.getElem?_append_right (by rw [rwi_len]; exact Nat.le_refl _), rwi_len]; simp
    · rw [List.getElem?_append_left (by rw [rwi_len]; omega)]; exact ih (by omega)
theorem rwi_congr {G G' : Nat → Option Addr} {cc cc' : Nat → Nat} {no t : Nat} (h : ∀ k, k < t → G k = G' k ∧ cc k = cc' k) : rwi G cc no t = rwi G' cc' no t := by
  induction t with
  | zero => rfl
  | succ t ih => show rwi G cc no t ++ [_] = rwi G' cc' no t ++ [_]; rw [ih fun k hk => h k (by omega), (h t (by omega)).1, (h t (by omega)).2]
theorem infoLi : (Tryz.prog.info? 46).map (fun i => (i.zero.map (fun z => z.cells.size), i.size, i.bytes)) = some (some 1, 1, 24) := by kernel_rfl
theorem infoLi' : ∃ i z, Tryz.prog.info? 46 = some i ∧ i.zero = some z ∧ i.size = 1 ∧ i.bytes = 24 ∧ z.cells.size = 1 := by
  have h := infoLi
  cases hi : Tryz.prog.info? 46 with
  | none => rw [hi] at h; simp at h
  | some i =>
    rw [hi] at h
    simp only [Option.map_some, Option.some.injEq, Prod.mk.injEq] at h
    cases hz : i.zero with
    | none => rw [hz] at h; simp at h
    | some z =>
      rw [hz] at h
      simp only [Option.map_some, Option.some.injEq] at h
      exact ⟨i, z, rfl, hz, h.2.1, h.2.2, h.1⟩
def OwS (w : World) (base : Nat) (A : Option Addr) (c : Nat) (G : Nat → Option Addr) (cc : Nat → Nat) (no n : Nat) : Prop := w.ownsRow base 46 1 (.slice A n c) n (rwi G cc no n)
theorem OwS.nil (w : World) (base : Nat) (G : Nat → Option Addr) (cc : Nat → Nat) (no : Nat) : OwS w base none 0 G cc no 0 := World.ownsRow_nil _ _ _ _
theorem OwS.lt {w : World} {base c n no : Nat} {A : Option Addr} {G : Nat → Option Addr} {cc : Nat → Nat} (h : OwS w base A c G cc no n) : ∀ k, (Value.slice A n c).ownBlock = some k → base ≤ k ∧ k < w.heap.size := World.ownsRow.lt h
theorem OwS.ext {w w' : World} {base c n no : Nat} {A : Option Addr} {G : Nat → Option Addr} {cc : Nat → Nat} (h : OwS w base A c G cc no n) (e : Ext w w') : OwS w' base A c G cc no n :=
  World.ownsRow.kept h (ext_gr e) (by cases (Value.slice A n c).ownBlock <;> simp)
theorem OwS.congr {w : World} {base c n no : Nat} {A : Option Addr} {G G' : Nat → Option Addr} {cc cc' : Nat → Nat} (h : OwS w base A c G cc no n) (e : ∀ k, k < n → G k = G' k ∧ cc k = cc' k) : OwS w base A c G' cc' no n := by
  unfold OwS at h ⊢; rw [← rwi_congr e]; exact h
theorem OwS.at_ {w : World} {base c n no : Nat} {A : Option Addr} {G : Nat → Option Addr} {cc : Nat → Nat} (h : OwS w base A c G cc no n) (h0 : 0 < n) : ∃ g, A = some ⟨g, 0, none⟩ ∧ g < w.heap.size ∧ ∀ k, k < n → w.cell? ⟨g, k, none⟩ = some (.slice (G k) no (cc k)) := by
  have h' := h
  obtain ⟨_, ⟨e, hz⟩ | ⟨g, cap, cur, e, _⟩⟩ := h'
  · omega
  · injection e with e1 e2 e3
    subst e1
    refine ⟨g, rfl, (World.ownsRow.lt h g rfl).2, fun k hk => ?_⟩
    rw [World.ownsRow.cellAt h k (by omega)]; exact rwi_get hk
theorem appS {ops : Array Oper} {rest : List Oper} {o : Oper} {a : Act} {w : World} {Q : Exit → Act → World → Prop} (hgd : o.guard = none) (s x : Operand) (ho : o.op = .call { callee := .builtin .append, args := #[s, x], argTypes := #[49, 49] })
    (base : Nat) (A : Option Addr) (c : Nat) (G : Nat → Option Addr) (cc : Nat → Nat) (no n : Nat) (hs : a.eval s = .slice A n c) (hown : OwS w base A c G cc no n) (ad : Addr) (cx : Nat) (hx : a.eval x = .slice (some ad) 1 cx) (hv : w.cell? (ad.add 0) = some (.slice (G n) no (cc n)))
    (hn : n ≤ 1099511627) (hbase : base ≤ w.heap.size)
    (h : ∀ g cap w', OwS w' base (some ⟨g, 0, none⟩) cap G cc no (n + 1) → w.grownBy w' (Value.slice A n c).ownBlock → ((Value.slice A n c).ownBlock = some g ∨ g = w.heap.size) → g < w'.heap.size →
      wpList Tryz.prog ops Q rest (a.put o.dst (.slice (some ⟨g, 0, none⟩) (n + 1) cap)) w') : wpList Tryz.prog ops Q (o :: rest) a w := by
  obtain ⟨i, z, hi, hz, h1, hb, hzs⟩ := infoLi'
  exact wpList_append_lies w hgd s x _ ho base 46 i z 1 24 Tryz.underlying49 hi hz h1 hb hzs (by omega) _ n _ hs hown ad 1 cx [.slice (G n) no (cc n)] hx rfl (by
      intro j u hu
      match j, hu with
      | 0, hu => simp at hu; subst hu; exact hv
      | j + 1, hu => simp at hu)
    (by intro u hu; simp only [List.mem_cons, List.not_mem_nil, or_false] at hu; subst hu; rfl) (by omega) (by unfold maxLen; omega) (by omega) hbase w.heap.size rfl h
def putA' (G : Nat → Option Addr) (t : Nat) (A : Option Addr) : Nat → Option Addr := fun k => if k = t then A else G k
def putN' (cc : Nat → Nat) (t c : Nat) : Nat → Nat := fun k => if k = t then c else cc k
theorem Ri.off' {w w' : World} {A : Option Addr} {n : Nat} {f : Nat → Int} {own : Option Nat} (h : Ri w A n f) (e : w.grownBy w' own) (hne : ∀ b o, A = some ⟨b, o, none⟩ → some b ≠ own) : Ri w' A n f := fun hn => by
  obtain ⟨b, o, ha, hb, hc⟩ := h hn
  have hbl := e.block b hb (hne b o ha)
  exact ⟨b, o, ha, Nat.lt_of_lt_of_le hb e.size, fun i hi => by rw [← hc i hi]; exact World.cell?_of_block (a := ⟨b, o + i, none⟩) hbl⟩
/-- The rows before t. -/
structure RiM (W w : World) (base no : Nat) (A : Option Addr) (c : Nat) (G : Nat → Option Addr) (cc : Nat → Nat) (F : Nat → Nat → Int) (t : Nat) : Prop where
  ext : Ext W w
  bas : W.heap.size ≤ base
  blt : base ≤ w.heap.size
  own : OwS w base A c G cc no t
  el : ∀ k, k < t → Ri w (G k) no (F k) ∧ ∀ b o, G k = some ⟨b, o, none⟩ → some b ≠ (Value.slice A t c).ownBlock ∧ b < w.heap.size
theorem RiM.nil {W w : World} {base no : Nat} (e : Ext W w) (h : W.heap.size ≤ base) (h2 : base ≤ w.heap.size) (F : Nat → Nat → Int) : RiM W w base no none 0 (fun _ => none) (fun _ => 0) F 0 :=
  ⟨e, h, h2, OwS.nil _ _ _ _ _, fun k hk => absurd hk (by omega)⟩
theorem RiM.own' {W w wb : World} {base no c t : Nat} {A : Option Addr} {G : Nat → Option Addr} {cc : Nat → Nat} {F : Nat → Nat → Int} (h : RiM W w base no A c G cc F t) (e : Ext w wb) (A2 : Option Addr) (c2 : Nat) : OwS wb base A c (putA' G t A2) (putN' cc t c2) no t :=
  (h.own.ext e).congr fun k hk => ⟨(if_neg (by omega)).symm, (if_neg (by omega)).symm⟩
theorem RiM.step {W w wb w' : World} {base no g cap c t c2 : Nat} {A A2 : Option Addr} {G : Nat → Option Addr} {cc : Nat → Nat} {F : Nat → Nat → Int} (h : RiM W w base no A c G cc F t) (e : Ext w wb) (r : Ri wb A2 no (F t)) (hA : ∀ b o, A2 = some ⟨b, o, none⟩ → w.heap.size ≤ b ∧ b < wb.heap.size)
    (o : OwS w' base (some ⟨g, 0, none⟩) cap (putA' G t A2) (putN' cc t c2) no (t + 1)) (hg : wb.grownBy w' (Value.slice A t c).ownBlock) (hat : (Value.slice A t c).ownBlock = some g ∨ g = wb.heap.size) :
    RiM W w' base no (some ⟨g, 0, none⟩) cap (putA' G t A2) (putN' cc t c2) F (t + 1) := by
  have hb := h.bas
  have hlt := h.own.lt
  refine ⟨Below.grown (h.ext.trans e) hg (h.ext.trans e).size (fun k hk => Nat.le_trans hb ((h.own.ext e).lt k hk).1), hb, Nat.le_trans h.blt (Nat.le_trans e.size hg.size), o, fun k hk => ?_⟩
  have hown : (Value.slice (some ⟨g, 0, none⟩) (t + 1) cap).ownBlock = some g := rfl
  rw [hown]
  unfold putA'
  have hs := e.size
  have hs2 := hg.size
  by_cases q : k = t
  · subst q
    rw [if_pos rfl]
    refine ⟨r.off' hg fun b o' ha q => ?_, fun b o' ha => ⟨fun q => ?_, ?_⟩⟩
    · have := (hlt b q.symm).2; have := (hA b o' ha).1; omega
    · injection q with q
      have h1 := hA b o' ha
      rcases hat with hat | hat
      · have := (hlt g hat).2; omega
      · omega
    · have := (hA b o' ha).2; omega
  · rw [if_neg q]
    have hk' := h.el k (by omega)
    refine ⟨(hk'.1.ext e).off' hg fun b o' ha => (hk'.2 b o' ha).1, fun b o' ha => ⟨fun q => ?_, ?_⟩⟩
    · injection q with q
      have h1 := hk'.2 b o' ha
      rcases hat with hat | hat
      · exact h1.1 (by rw [hat, q])
      · omega
    · have := (hk'.2 b o' ha).2; omega
theorem RiM.lli {W w : World} {base no c n : Nat} {A : Option Addr} {G : Nat → Option Addr} {cc : Nat → Nat} {F : Nat → Nat → Int} (h : RiM W w base no A c G cc F n) (hno : no ≤ maxLen) : Lli w A n G (fun _ => no) cc F :=
  ⟨fun h0 => by
    obtain ⟨g, h1, h2, h3⟩ := h.own.at_ h0
    exact ⟨g, 0, h1, h2, fun t ht => by rw [Nat.zero_add]; exact h3 t ht⟩, fun t ht => ⟨(h.el t ht).1, hno⟩⟩
end Go.Proofs.YtcdkkohklhmpgaaGreatDoor
